import Derived.Test.YtocligpfmfmihaaGreatDoorChn5G
set_option maxHeartbeats 1000000
set_option maxRecDepth 20000
namespace Go.Proofs.YtocligpfmfmihaaGreatDoor
open Go.Proofs.Tryz
section
open Go Go.RowKit Go.Maps Go.WideMaps
def lM(old:Bool)(till:Int)(id:Bs)(m:List (Bs×J)):Option Ky:=(dS (ai gX m)).bind fun k=>if old then (cC (ai lu m)).map fun t=>⟨id,k,true,t⟩ else some ⟨id,k,false,till⟩
def OnR(W w:World)(o:Option Ky)(e:Ending)(w':World):Prop:=Kp (fun _=>False) w w'∧match o with
 |some k=>e=.returned (.tuple #[.agg #[.string ⟨k.id.toArray⟩,.string ⟨k.key.toArray⟩,.bool k.old,.int .i64 k.till],.nilIface])
 |none=>∃a b c d ev,e=.returned (.tuple #[.agg #[.string a,.string b,.bool c,.int .i64 d],ev])∧Ech W w' ev
theorem ey{w:World}{q:Nat}{a b c d:Value}{T:TypeId}(h:w.heap[q]? =some (.cells #[a,b,c,d] T)):w.cell? ⟨q,0,none⟩=some a∧w.cell? ⟨q,1,none⟩=some b∧w.cell? ⟨q,2,none⟩=some c∧w.cell? ⟨q,3,none⟩=some d ∧
  w.frozen? ⟨q,0,none⟩=false∧w.frozen? ⟨q,1,none⟩=false∧w.frozen? ⟨q,2,none⟩=false∧w.frozen? ⟨q,3,none⟩=false∧q < w.heap.size:=by
 refine⟨?_, ?_, ?_, ?_, ?_, ?_, ?_, ?_,ag h⟩ <;> simp[World.cell?,World.frozen?,h]
theorem sq{w:World}{q:Nat}{x y z u a b c d:Value}{T:TypeId}(h:w.heap[q]? =some (.cells #[x,y,z,u] T)):((((w.setCell ⟨q,0,none⟩ a).setCell ⟨q,1,none⟩ b).setCell ⟨q,2,none⟩ c).setCell ⟨q,3,none⟩ d).heap[q]? =some (.cells #[a,b,c,d] T):=by simp[World.setCell,Array.getElem?_modify,h]
theorem kp4{w w6:World}{a b c d:Value}(h:Kp (fun _=>False) w w6):Kp (fun _=>False) w ((((w6.setCell ⟨w.heap.size,0,none⟩ a).setCell ⟨w.heap.size,1,none⟩ b).setCell ⟨w.heap.size,2,none⟩ c).setCell ⟨w.heap.size,3,none⟩ d):=
 Kp.setCell (p:=⟨w.heap.size,3,none⟩) (kp3 h) (fun q=>absurd q (Nat.lt_irrefl _)) _
theorem ou{w:World}{rb:Nat}{a b c d ev:Value}(tmps:Array Value)(h2:tmps[5]?.getD undef=.pointer (some ⟨rb,0,none⟩))(h3:tmps[6]?.getD undef=ev)(hb:w.heap[rb]? =some (.cells #[a,b,c,d] 35)):
  (results Tryz.f176 tmps).run prog w=.ok (.tuple #[.agg #[a,b,c,d],ev]) w:=by
 obtain⟨e,f,g,h,_⟩:=ey hb;simp[results,results176,go_sem,h2,h3,e,f,g,h]
theorem kf{w:World}{rb:Nat}{a b c d ev:Value}(tmps:Array Value)(h2:tmps[4]?.getD undef=.pointer (some ⟨rb,0,none⟩))(h3:tmps[5]?.getD undef=ev)(hb:w.heap[rb]? =some (.cells #[a,b,c,d] 35)):
  (results Tryz.f177 tmps).run prog w=.ok (.tuple #[.agg #[a,b,c,d],ev]) w:=by
 obtain⟨e,f,g,h,_⟩:=ey hb;simp[results,results177,go_sem,h2,h3,e,f,g,h]
theorem Ech.old{W w w':World}{ev:Value}(h:Ech W w ev)(hk:∀(k:Nat) (c:Array Value),w.heap[k]? =some (.cells c 252)→w'.heap[k]? =w.heap[k]?):Ech W w' ev:=by
 induction h with
 |base a h=>exact .base a h
 |mem b s ev h _ ih=>exact .mem b s ev ((hk b _ h).trans h) ih
theorem Eh{W w:World}{q:Nat}{ev x y z u a b c d:Value}{T:TypeId}(h:Ech W w ev)(hq:w.heap[q]? =some (.cells #[x,y,z,u] T))(hT:T≠252):Ech W ((((w.setCell ⟨q,0,none⟩ a).setCell ⟨q,1,none⟩ b).setCell ⟨q,2,none⟩ c).setCell ⟨q,3,none⟩ d) ev:=by
 refine h.old ?_;intro k g e
 have:k≠q:=by
  rintro rfl;rw[hq]at e;injection e with e
  injection e with _ f _
  exact hT f
 rw[af (by exact this),af (by exact this),af (by exact this),af (by exact this)]
theorem vt{W w w6:World}{o:Option Ky}{a b:ByteArray}{c:Bool}{d:Int}{ev x y z u:Value}(h:Kp (fun _=>False) w w6)(hq:w6.heap[w.heap.size]? =some (.cells #[x,y,z,u] 35))(he:Ech W w6 ev)(ho:o=none):
  OnR W w o (.returned (.tuple #[.agg #[.string a,.string b,.bool c,.int .i64 d],ev])) ((((w6.setCell ⟨w.heap.size,0,none⟩ (.string a)).setCell ⟨w.heap.size,1,none⟩ (.string b)).setCell ⟨w.heap.size,2,none⟩ (.bool c)).setCell ⟨w.heap.size,3,none⟩ (.int .i64 d)):=by
 subst ho;exact⟨kp4 h,_,_,_,_,_,rfl,Eh he hq (by decide)⟩
theorem xz{W w w6:World}{o:Option Ky}{k:Ky}(h:Kp (fun _=>False) w w6)(ho:o=some k):
  OnR W w o (.returned (.tuple #[.agg #[.string ⟨k.id.toArray⟩,.string ⟨k.key.toArray⟩,.bool k.old,.int .i64 k.till],.nilIface])) ((((w6.setCell ⟨w.heap.size,0,none⟩ (.string ⟨k.id.toArray⟩)).setCell ⟨w.heap.size,1,none⟩ (.string ⟨k.key.toArray⟩)).setCell ⟨w.heap.size,2,none⟩ (.bool k.old)).setCell ⟨w.heap.size,3,none⟩ (.int .i64 k.till)):=by
 subst ho;exact⟨kp4 h,rfl⟩
theorem za(W:World)(hN:NG2 W)(w:World)(hW:Below W.heap.size W w)(m:List (Bs×J))(b ub:Nat)(id:Bs)(till:Int)(ho:Oz w m b)(hu:w.heap[ub]? =some (.cells #[.int .i64 till] 2)):
  Calls prog 176 #[.string ⟨id.toArray⟩,.map (some b),.pointer (some ⟨ub,0,none⟩)] w fun e w'=>OnR W w (lM false till id m) e w':=by
 have g:Kp (fun _=>False) w (w.alloc (.cells #[.string ⟨#[]⟩,.string ⟨#[]⟩,.bool false,.int .i64 0] 35)):=(Kp.refl _ _).alloc _;have n:=heap_alloc_new w (.cells #[.string ⟨#[]⟩,.string ⟨#[]⟩,.bool false,.int .i64 0] 35);have l:=ae (gJ W hN _ (am hW g) m b gX (by decide) (ho.up g))
 have a:lM false till id m=(dS (ai gX m)).map fun k=>⟨id,k,false,till⟩:=by
  unfold lM;cases dS (ai gX m) <;> rfl
 clear ho;go_enter func176,ntmps176;go_wp2_with fail
 generalize (w.alloc (.cells #[.string ⟨#[]⟩,.string ⟨#[]⟩,.bool false,.int .i64 0] 35))=w0 at *;refine l.o.mono ?_;rintro e w1 ⟨h,d⟩;obtain⟨x,_⟩:=aj ((g.trans h).heap hu);have f:=h.heap n;obtain⟨z,A,B,C,q,r,t,v,p⟩:=ey f;have j:=ae (g.trans h);clear l h hu
 cases hs:dS (ai gX m) with
 |none=>
  rw[hs]at d a;obtain⟨y,rfl,i⟩:=d;obtain⟨D,u,rfl⟩:=i.iface;have c:=ae (An i a);clear i hs a;go_wp2;exact bodyPost_ret (ou _ rfl rfl (sq f)) rfl (vt j.o f c.o.1 c.o.2)
 |some s=>
  rw[hs]at d a;replace d:e=.returned (.tuple #[.string ⟨s.toArray⟩,.nilIface]):=d;subst d;have c:=ae a;clear hs a;go_wp2;exact bodyPost_ret (ou _ rfl rfl (sq f)) rfl (xz (k:=⟨id,s,false,till⟩) j.o c.o)
theorem Dz(W:World)(hN:NG2 W)(w:World)(hW:Below W.heap.size W w)(m:List (Bs×J))(b:Nat)(id:Bs)(till:Int)(ho:Oz w m b):
  Calls prog 177 #[.string ⟨id.toArray⟩,.map (some b)] w fun e w'=>OnR W w (lM true till id m) e w':=by
 have i:Kp (fun _=>False) w (w.alloc (.cells #[.string ⟨#[]⟩,.string ⟨#[]⟩,.bool false,.int .i64 0] 35)):=(Kp.refl _ _).alloc _;have G:=heap_alloc_new w (.cells #[.string ⟨#[]⟩,.string ⟨#[]⟩,.bool false,.int .i64 0] 35);have A:=ae (gJ W hN _ (am hW i) m b gX (by decide) (ho.up i));have a:lM true till id m=(dS (ai gX m)).bind fun k=>(cC (ai lu m)).map fun t=>⟨id,k,true,t⟩:=rfl
 go_enter func177,ntmps177;go_wp2_with fail
 generalize (w.alloc (.cells #[.string ⟨#[]⟩,.string ⟨#[]⟩,.bool false,.int .i64 0] 35))=w0 at *;refine A.o.mono ?_;rintro e w1 ⟨j,f⟩;have B:=ae (gZ W hN w1 (am hW (i.trans j)) m b lu (by decide) (ho.up (i.trans j)));have v:=j.heap G;obtain⟨C,D,E,F,n,p,q,r,l⟩:=ey v;have z:=ae (i.trans j);clear A j
 cases hs:dS (ai gX m) with
 |none=>
  rw[hs]at f a;obtain⟨H,rfl,d⟩:=f;obtain⟨I,u,rfl⟩:=d.iface;have c:=ae (An d a);clear d hs a;go_wp2;exact bodyPost_ret (kf _ rfl rfl (sq v)) rfl (vt z.o v c.o.1 c.o.2)
 |some s=>
  rw[hs]at f a;replace f:e=.returned (.tuple #[.string ⟨s.toArray⟩,.nilIface]):=f;subst f;clear hs;go_wp2_with fail
  refine B.o.mono ?_;rintro e w2 ⟨y,g⟩;have h:=ae (z.o.trans y);have x:=y.heap v;clear C D E F n p q r l;obtain⟨C,D,E,F,n,p,q,r,l⟩:=ey x;clear B y
  cases hm:cC (ai lu m) with
  |none=>
   rw[hm]at g a;obtain⟨H,rfl,d⟩:=g;obtain⟨I,u,rfl⟩:=d.iface;have c:=ae (An d a);clear d hm a;go_wp2;exact bodyPost_ret (kf _ rfl rfl (sq x)) rfl (vt h.o x c.o.1 c.o.2)
  |some t=>
   rw[hm]at g a;replace g:e=.returned (.tuple #[.int .i64 t,.nilIface]):=g;subst g;have c:=ae a;clear hm a;go_wp2;exact bodyPost_ret (kf _ rfl rfl (sq x)) rfl (xz (k:=⟨id,s,true,t⟩) h.o c.o)
end
section
open Go Go.RowKit Go.Maps Go.WideMaps Go.Sort Go.Shelf
def KpT(n0 ob:Nat)(W W':World):Prop:=W.heap.size≤W'.heap.size∧(∀k c t fz,W.heap[k]? =some (.cells c t fz)→t≠35→k≠ob→W'.heap[k]? =W.heap[k]?)∧(∀k es cl,k < n0→W.heap[k]? =some (.map es cl)→W'.heap[k]? =W.heap[k]?)
theorem KpT.t{n0 ob:Nat}{A B C:World}(h:KpT n0 ob A B)(k:KpT n0 ob B C):KpT n0 ob A C:=by
 refine⟨Nat.le_trans h.1 k.1, ?_, ?_⟩
 ·intro i c t fz a f g
  have e:=h.2.1 i c t fz a f g;exact (k.2.1 i c t fz (e.trans a) f g).trans e
 ·intro i b cl d a
  have e:=h.2.2 i b cl d a;exact (k.2.2 i b cl d (e.trans a)).trans e
theorem KpT.b{n0 ob:Nat}{w:World}(hn:n0≤w.heap.size)(W:World)(l:Nat)(o o':Obj)(hl:w.heap.size≤l)(h:W.heap[l]? =some o)(hc:o.isCells=false)(_:o.isWalk=false):KpT n0 ob W (W.putObj l o'):=by
 have d:=grownBy_putObj' W l o';refine⟨d.size, ?_, ?_⟩
 ·intro i c t fz a _ _
  refine d.block i (ag a) ?_;intro e;injection e with e
  subst e;rw[h]at a;injection a with a
  subst a;cases hc
 ·intro i f cl g a
  exact d.block i (ag a) (by intro e;injection e with e;omega)
attribute [local go_sem] Oper.semAt_some
theorem zv(n:Nat)(hn:3≤n)(lr bx b n0 ob:Nat)(m:List (Bs×Value))(hm:Srt m)(hml:m.length≤1000000)(hkl:∀p ∈ m,p.1.length≤139000000000000)(hif:∀p ∈ m,∃t u,p.2=.iface t u)(J Jx:List (Fin m.length)→World→Prop)
  (W:World) (hJ:AbidesFrom W.heap.size J)
  (hY:∀pre x W1,J pre W1→pre.length < m.length→YieldAt Fence.wide (n - 1) prog lr (gV m x) W1 fun e W'=>
    (e=.returned (.bool true)∧J (pre ++[x]) W'∧KpT n0 ob W1 W')∨(e=.returned (.bool false)∧Jx (pre ++[x]) W'))
  (hbx:W.heap[bx]? =some (.cells #[.map (some b)] 71)) (hbo:bx≠ob) (hob:ob < W.heap.size) (hown:W.ownsMap prog 9 Rv b m.length (dm m)) (hbn:b < n0) (h0:J [] W) :
  CallsIn Fence.wide n prog 213 #[.func (.yield lr) #[] #[],.pointer (some ⟨bx,0,none⟩)] W fun e W'=>(∃v,e=.returned v) ∧
   ((∃xs,xs=List.finRange m.length∧J xs W')∨(∃pre,True∧Jx pre W')):=by
 obtain⟨cx,fx⟩:=aj hbx;have B:Maps.size (dm m)=m.length:=gm m;refine callsIn_of_wp func213 rfl trivial ?_ rfl;simp only[ntmps213,List.size_toArray,List.length_cons,List.length_nil,Nat.reduceAdd,Nat.reduceSub,Array.replicate_succ,Array.replicate_zero,List.push_toArray,List.append_toArray,List.nil_append,List.cons_append];have ah:1≤n:=by omega
 have am:Fence.wide.fn 215:=trivial;have an:Fence.wide.fn 214:=trivial
 gi_wp2_with (first
   | (gi_at_call 215;refine (callsIn_wide.2 (callsIn_wide.1 (Tryz.maps_Keys_215 _ _))).mono ?_;rintro e w' ⟨rfl,rfl⟩)
   | (gi_at_call 214;refine (callsIn_wide.2 (callsIn_wide.1 (Tryz.slices_Sorted_keys_214_215 b m.length (dm m) Rv W hown (by rw[B];unfold maxLen;omega) (by rw[B];omega)))).mono ?_;rintro e w' ⟨v,ss,rfl,Y,s,I,T⟩;obtain⟨sa,af,g,X,rfl,j⟩:=cG s))
 have K:ss.length=m.length:=by rw[Y.length_eq];simp[strKeys,dm]
 rw[jA hm Y]at j;have J2:J [] w':=hJ [] _ _ none (hJ [] _ _ none h0 (World.grownBy_alloc W _ none) (fun r e=>by cases e)) (jp T) (fun r e=>by cases e);have D:w'.heap[bx]? =some (.cells #[.map (some b)] 71):=(T.block bx (by simp;have:=ag hbx;omega)).trans ((Below.heap_alloc _ _ _ (ag hbx)).trans hbx);have A:w'.ownsMap prog 9 Rv b m.length (dm m):=ay hown ((T.block b (by simp;have:=hown.lt;omega)).trans (Below.heap_alloc _ _ _ hown.lt))
 have E:0 < m.length→g≠ob:=by
  intro h;rw[K]at j;have:=(j h).2.1;simp at this;omega
 clear s I Y;generalize ss.length=L at *;subst K;have U:=ae (An j E);clear j E B cx fx T;gi_wp2_with fail
 have ap:(m.length:Int)≤1000000:=by omega
 gi_loopw [9] (fun i wr=>∃k:Nat,k≤m.length∧i=.int .i64 (k:Int)∧J ((List.finRange m.length).take k) wr∧wr.heap[bx]? =some (.cells #[.map (some b)] 71)∧(0 < m.length→wr.heap[g]? =some (.cells X 9))∧wr.ownsMap prog 9 Rv b m.length (dm m)) (fun i _=>m.length - (intOf i).toNat)
 case atStart=>exact⟨0,by omega,rfl,by simpa using J2,D,fun h=>(U.o.1 h).2.2.1,A⟩
 case round=>
  obtain⟨k,hk,rfl,w,y,F,z⟩:=hrel;by_cases a:k < m.length
  ·obtain⟨rfl,ao,Z,ad,q⟩:=U.o.1 (by omega)
   have c:=F (by omega);obtain⟨tt,u,d⟩:=hif m[k] (List.getElem_mem a)
   have al:wr.cell? ⟨g,k,none⟩=some (.string ⟨m[k].1.toArray⟩):=by
    have S:=q k a;simp only[List.getElem?_map,List.getElem?_eq_getElem a,Option.map_some]at S;simp[World.cell?,c,S]
   have f:ai m[k].1 m=some m[k].2:=kB m hm k a;obtain⟨lv,aq,aa,l⟩:=z.lookup ed underlying71 (kQ wr) (R:=Rv) (zd:=.held .nilIface) (zp:=[]) rfl (dj (hkl m[k] (List.getElem_mem a)))
   have H:lv=.iface tt u:=by
    rw[l7,f]at l;simp only[Rv,Option.some.injEq,Prod.mk.injEq,DataW.held.injEq]at l;rw[l.1,d]
   rw[H]at aa;obtain⟨cx,fx⟩:=aj y;have ab:((List.finRange m.length).take k).length < m.length:=by simp;omega
   obtain⟨fn,tmps,Q,ac,hy,hR⟩:=hY _ ⟨k,a⟩ wr w ab;simp only[gV,Fin.getElem_fin,d]at hy;generalize m[k].1=key at *;have G:decide ((k:Int) < (m.length:Int))=true:=by simp;omega
   have C:=ae (An y (An c z));clear f l H d y F c z q Z
   have M:(List.finRange m.length).take (k+1)=(List.finRange m.length).take k ++[⟨k,a⟩]:=by
    rw[List.take_succ_eq_append_getElem (by simpa using a)];simp
   have HT:=ae M;clear M;gi_wp2
   refine hR.mono ?_;rintro e W3 (⟨rfl,hJ3,hk3⟩ | ⟨rfl,hJx3⟩)
   ·have N:=hk3.2.1 bx _ _ _ C.o.1 (by decide) hbo
    have O:=hk3.2.1 g _ _ _ C.o.2.1 (by decide) (U.o.2 (by omega))
    have P:W3.ownsMap prog 9 Rv b m.length (dm m):=by
     obtain⟨es,cl,q1,q2⟩:=C.o.2.2;exact⟨es,cl,(hk3.2.2 b es cl hbn q1).trans q1,q2⟩
    have V:=ae (An (N.trans C.o.1) (An (O.trans C.o.2.1) P));clear N O P;gi_wp2
    go_roundw
    case rel=>exact⟨k+1,by omega,ak (by omega),by rw[HT.o];exact hJ3,V.o.1,fun _=>V.o.2.1,V.o.2.2⟩
    case measure=>simp[intOf];omega
   ·gi_wp2
    refine bodyPost_ret (results_none rfl _ _ _) rfl ?_;exact⟨⟨_,rfl⟩,.inr ⟨_,trivial,hJx3⟩⟩
  ·have G:decide ((k:Int) < (m.length:Int))=false:=by simp;omega
   gi_wp2
   go_end0
   refine⟨⟨_,rfl⟩,.inl ⟨_,rfl, ?_⟩⟩;have S:(List.finRange m.length).take k=List.finRange m.length:=List.take_of_length_le (by simp;omega);rw[S]at w;exact w
end
section
open Go Go.RowKit Go.Maps Go.WideMaps Go.Sort Go.Shelf
attribute [local go_sem] Oper.semAt_some
def KuR(W w:World)(o:Option (List Ky))(e:Ending)(w':World):Prop:=Kp (fun _=>False) w w'∧match o with
 |some ks=>∃v,e=.returned (.tuple #[v,.nilIface])∧w'.ownsRow w.heap.size 35 4 v ks.length (ks.flatMap kyC)
 |none=>∃ev,e=.returned (.tuple #[.slice none 0 0,ev])∧Ech W w' ev
def yq(W:World)(fn:Nat)(cap:Array Value)(P:World→Prop)(old:Bool)(till:Int):Prop:=∀(w:World) (m:List (Bs×J)) (b:Nat) (id:Bs),Below W.heap.size W w→P w→Oz w m b →
 Calls prog fn (#[.string ⟨id.toArray⟩,.map (some b)] ++cap) w fun e w'=>OnR W w (lM old till id m) e w'
theorem yX(w:World)(A B C D:Obj):let x:=(((w.alloc A).alloc B).alloc C).alloc D
  x.heap[w.heap.size]? =some A∧x.heap[w.heap.size+1]? =some B∧x.heap[w.heap.size+1+1]? =some C∧x.heap[w.heap.size+1+1+1]? =some D:=by
 refine⟨?_, ?_, ?_, ?_⟩
 ·rw[Below.heap_alloc _ _ _ (by simp only[World.size_alloc];omega),Below.heap_alloc _ _ _ (by simp only[World.size_alloc];omega),Below.heap_alloc _ _ _ (by simp only[World.size_alloc];omega)]
  exact heap_alloc_new w A
 ·rw[Below.heap_alloc _ _ _ (by simp only[World.size_alloc];omega),Below.heap_alloc _ _ _ (by simp only[World.size_alloc];omega)]
  have:=heap_alloc_new (w.alloc A) B;rwa[World.size_alloc]at this
 ·rw[Below.heap_alloc _ _ _ (by simp)]
  have:=heap_alloc_new ((w.alloc A).alloc B) C;rwa[World.size_alloc,World.size_alloc]at this
 ·have:=heap_alloc_new (((w.alloc A).alloc B).alloc C) D
  rwa[World.size_alloc,World.size_alloc,World.size_alloc]at this
theorem lU(w:World)(A B C:Obj):let x:=((w.alloc A).alloc B).alloc C
  x.heap[w.heap.size]? =some A∧x.heap[w.heap.size+1]? =some B∧x.heap[w.heap.size+1+1]? =some C:=by
 refine⟨?_, ?_, ?_⟩
 ·rw[Below.heap_alloc _ _ _ (by simp only[World.size_alloc];omega),Below.heap_alloc _ _ _ (by simp only[World.size_alloc];omega)]
  exact heap_alloc_new w A
 ·rw[Below.heap_alloc _ _ _ (by simp only[World.size_alloc];omega)]
  have:=heap_alloc_new (w.alloc A) B;rwa[World.size_alloc]at this
 ·have:=heap_alloc_new ((w.alloc A).alloc B) C
  rwa[World.size_alloc,World.size_alloc]at this
theorem ow{old:Bool}{till:Int}:∀ {l:List (Bs×J)} {p:Bs×J},p ∈ l→dB old till p.1 p.2=none→aI old till l=none
 | (a,j) :: l,p,hp,h=>by
  simp only[aI];rcases List.mem_cons.1 hp with rfl | hp
  ·rw[h];rfl
  ·rw[ow hp h]
   cases dB old till a j <;> rfl
theorem zl(old:Bool)(till:Int)(id:Bs)(j:J):dB old till id j=if cd id then (dt (some j)).bind (lM old till id) else none:=by
 unfold dB;cases j <;> rfl
theorem lG{α:Type}:∀(m:List (Bs×α)) (_:Srt m) (k:Nat) (p:Bs×α),m[k]? =some p→ai p.1 m=some p.2
 | (a,x) :: l,hm,0,p,h=>by
  simp at h;subst h;simp[ai]
 | (a,x) :: l,hm,k+1,p,h=>by
  obtain⟨d,f⟩:=List.pairwise_cons.1 hm;have b:l[k]? =some p:=by simpa using h
  have c:=d p (List.mem_of_getElem? b);simp only[ai];rw[if_neg (by intro e;rw[←e]at c;exact dz _ c)];exact lG l f k p b
theorem qd(l:List (Bs×J))(n:Nat)(h:n=l.length):(List.finRange n).map (fun i=>cD l i.val)=l:=by
 subst h;refine List.ext_getElem (by simp) ?_;intro i b a;simp only[List.getElem_map,List.getElem_finRange];unfold cD;simp[a]
theorem kr{w:World}{q z:Nat}{v ev:Value}(tmps:Array Value)(h2:tmps[6]?.getD undef=.pointer (some ⟨q,0,none⟩))(h3:tmps[7]?.getD undef=.pointer (some ⟨z,0,none⟩))(hb:w.heap[q]? =some (.cells #[v] 28))(hc:w.heap[z]? =some (.cells #[ev] 61)):
  (results Tryz.f175 tmps).run prog w=.ok (.tuple #[v,ev]) w:=by
 obtain⟨a,_⟩:=aj hb;obtain⟨b,_⟩:=aj hc;simp[results,results175,go_sem,h2,h3,a,b]
theorem bC{W W':World}{row:Option Nat}(hg:W.grownBy W' row)(hr:∀r,row=some r→∃o:Obj,W.heap[r]? =some o∧o.isCells=false){k:Nat}{c:Array Value}{t:TypeId}{fz:Nat×Nat}(h:W.heap[k]? =some (.cells c t fz)):W'.heap[k]? =some (.cells c t fz):=by
 rw[hg.block k (ag h) ?_]
 ·exact h
 ·intro e
  obtain⟨d,a,b⟩:=hr k e.symm;rw[h]at a;injection a with a
  subst a;cases b
theorem m9{S:Nat→Prop}{X Y:World}(h:Kp S X Y)(hS:∀k,S k→∃c t fz,X.heap[k]? =some (.cells c t fz)):KeepsOthers X Y:=
 ⟨h.size,fun k o h1 h2=>(h.block k (ag h1) (fun hs=>by obtain⟨c,t,fz,e⟩:=hS k hs;rw[h1]at e;injection e with e;subst e;cases h2)).trans h1⟩
theorem pE{w X:World}{q z:Nat}{a b:Value}(h:Kp (fun _=>False) w X)(hq:w.heap.size≤q)(hz:w.heap.size≤z):Kp (fun _=>False) w ((X.setCell ⟨q,0,none⟩ a).setCell ⟨z,0,none⟩ b):=
 Kp.setCell (p:=⟨z,0,none⟩) (Kp.setCell (p:=⟨q,0,none⟩) h (fun e=>by exact absurd e (Nat.not_lt.2 hq)) _) (fun e=>by exact absurd e (Nat.not_lt.2 hz)) _
theorem pF{X:World}{q z:Nat}{x y a b:Value}{T U:TypeId}(hq:X.heap[q]? =some (.cells #[x] T))(hz:X.heap[z]? =some (.cells #[y] U))(hqz:q≠z):((X.setCell ⟨q,0,none⟩ a).setCell ⟨z,0,none⟩ b).heap[q]? =some (.cells #[a] T)∧((X.setCell ⟨q,0,none⟩ a).setCell ⟨z,0,none⟩ b).heap[z]? =some (.cells #[b] U):=by
 constructor
 ·rw[af (by exact hqz)]
  exact d8 hq a
 ·exact d8 (v:=y) (by rw[af (by exact Ne.symm hqz)];exact hz) b
theorem De{W X:World}{q z:Nat}{ev x y a b:Value}{T U:TypeId}(h:Ech W X ev)(hq:X.heap[q]? =some (.cells #[x] T))(hz:X.heap[z]? =some (.cells #[y] U))(hT:T≠252)(hU:U≠252):Ech W ((X.setCell ⟨q,0,none⟩ a).setCell ⟨z,0,none⟩ b) ev:=by
 refine h.old ?_;intro k f c
 have e:k≠q:=by
  rintro rfl;rw[hq]at c;injection c with c
  injection c with _ d _
  exact hT d
 have d:k≠z:=by
  rintro rfl;rw[hz]at c;injection c with c
  injection c with _ d _
  exact hU d
 rw[af (by exact d),af (by exact e)]
def KIv(X0:World)(kb:Nat)(old:Bool)(till:Int)(m:List (Bs×J))(n:Nat)(pre:List (Fin n))(X:World):Prop:=
 ∃vv ks,X.heap[kb]? =some (.cells #[vv] 28)∧X.ownsRow X0.heap.size 35 4 vv ks.length (ks.flatMap kyC)∧aI old till (pre.map fun i=>cD m i.val)=some ks∧Kp (· =kb) X0 X
def KIx(W w:World)(q z:Nat)(old:Bool)(till:Int)(m:List (Bs×J))(n:Nat)(c:Code)(_:List (Fin n))(X:World):Prop:=
 c=.ret∧∃ev,X.heap[q]? =some (.cells #[.slice none 0 0] 28)∧X.heap[z]? =some (.cells #[ev] 61)∧Ech W X ev∧aI old till m=none∧Kp (fun _=>False) w X
theorem Kp.gr{S:Nat→Prop}{a X Y:World}{row:Option Nat}(h:Kp S a X)(hg:X.grownBy Y row)(hr:∀r,row=some r→a.heap.size≤r):Kp S a Y:=h.grown hg (fun k e hk=>by have:=hr k e;omega)
theorem KIv.own{X0:World}{kb:Nat}{old:Bool}{till:Int}{m:List (Bs×J)}{n:Nat}:OwnFrom X0.heap.size (KIv X0 kb old till m n):=by
 rintro pre X Y row ⟨p,o,i,c,j,l⟩ a b;refine⟨p,o,bC a (fun r e=>(b r e).2) i,ap c ?_,j,l.gr a (fun r e=>(b r e).1)⟩;intro k e;obtain⟨_,⟨rfl,_⟩ | ⟨g,f,h,rfl,_,d,_⟩⟩:=c
 ·cases e
 ·injection e with e
  subst e;rw[bC a (fun r e=>(b r e).2) d,d]
theorem KIx.own{W w:World}{B q z:Nat}{old:Bool}{till:Int}{m:List (Bs×J)}{n:Nat}(c:Code)(hB:w.heap.size≤B):OwnFrom B (KIx W w q z old till m n c):=by
 rintro pre X Y row ⟨f,d,g,h,i,j,l⟩ a b;exact⟨f,d,bC a (fun r e=>(b r e).2) g,bC a (fun r e=>(b r e).2) h,i.old (fun k c hk=>(bC a (fun r e=>(b r e).2) hk).trans hk.symm),j,l.gr a (fun r e=>by have:=(b r e).1;omega)⟩
theorem pj{W w X Y:World}{q z:Nat}{old:Bool}{till:Int}{m:List (Bs×J)}{n:Nat}{pre:List (Fin n)}{ev x y:Value}(hXY:Kp (fun _=>False) X Y)(hwY:Kp (fun _=>False) w Y)(hq:X.heap[q]? =some (.cells #[x] 28))(hz:X.heap[z]? =some (.cells #[y] 61))(hqz:q≠z)(hwq:w.heap.size≤q)(hwz:w.heap.size≤z)(he:Ech W Y ev)(hn:aI old till m=none):
  KeepsOthers X ((Y.setCell ⟨q,0,none⟩ (.slice none 0 0)).setCell ⟨z,0,none⟩ ev)∧KIx W w q z old till m n .ret pre ((Y.setCell ⟨q,0,none⟩ (.slice none 0 0)).setCell ⟨z,0,none⟩ ev):=by
 have c:=hXY.heap hq;have d:=hXY.heap hz;obtain⟨e,f⟩:=pF (a:=.slice none 0 0) (b:=ev) c d hqz;refine⟨m9 (S:=fun k=>k=q∨k=z) ?_ ?_,rfl,ev,e,f,De he c d (by decide) (by decide),hn,pE hwY hwq hwz⟩
 ·exact Kp.setCell (p:=⟨z,0,none⟩) (Kp.setCell (p:=⟨q,0,none⟩) (hXY.mono (fun _ _ h=>h.elim)) (fun _=>Or.inl rfl) _) (fun _=>Or.inr rfl) _
 ·rintro k (rfl | rfl)
  ·exact⟨_,_,_,hq⟩
  ·exact⟨_,_,_,hz⟩
end
end Go.Proofs.YtocligpfmfmihaaGreatDoor
