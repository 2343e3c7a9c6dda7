import Derived.Test.YtocligpfmfmihaaGreatDoorChn6G
set_option maxHeartbeats 4000000
set_option maxRecDepth 20000
namespace Go.Proofs.YtocligpfmfmihaaGreatDoor
open Go.Proofs.Tryz
section
open Go Go.RowKit
theorem oS{P:Program}{c:Code}{Q:Exit→Act→World→Prop}{a:Act}{w:World}(A:Act)(C:World→Prop)(h:Code.wp P c (noP fun ex a' w'=>ex=.normal∧a'=A∧C w') a w)(hq:∀X,C X→Q .normal A X):Code.wp P c Q a w:=
 lX (Code.wp_mono (fun e _ _ h=>by
   cases e <;> first
     |exact h.elim
     | (obtain⟨d,rfl,b⟩:=h;exact hq _ b)
     |exact absurd h.1 (by intro h;cases h)) h)
theorem gL{A:Act}{X:World}{C:World→Prop}(h:C X):noP (fun ex a' w'=>ex=.normal∧a'=A∧C w') .normal A X:=⟨rfl,rfl,h⟩
theorem vL{P:Program}{ops:Array Oper}{o:Oper}{a:Act}{w:World}{K:Act→World→Prop}{Q:Exit→Act→World→Prop}{E:Prop}(hw:Region.wanted o (yielded ops a.tmps)=true)(f:FuncId)(xs:Array Operand)(ts:Array TypeId)(_:o.op=.call { callee:=.value (.func f),args:=xs,argTypes:=ts })(args:Array Value)
  (hrun:(execOp a.eval o).run P w=.ok (.enter f args) w)
  (h:Calls P f args w fun | .returned v,w''=>K (a.put o.dst v) w'' | .panicked chain,w''=>Q (.panic chain) a w'' | .outgrown,_=>LetsOut Q) :
  if Region.wanted o (yielded ops a.tmps)=true then Oper.wp P o a w K Q else E:=by
 rw[if_pos hw];unfold Oper.wp;rw[hrun,Oper.upon_enter];exact h
end
section
open Go Go.RowKit Go.Maps Go.WideMaps Go.MuLone
attribute [local go_sem] Oper.semAt_some
def sgC(p:Bs×Bs):List Value:=[.string ⟨p.1.toArray⟩,.string ⟨p.2.toArray⟩]
theorem su{w:World}{B:Nat}{g n c:Nat}{ks:List (Bs×Bs)}(h:w.ownsRow B 193 2 (.slice (some ⟨g,0,none⟩) n c) n (ks.flatMap sgC))(i:Nat)(k:Bs×Bs)(hk:ks[i]? =some k):
  w.cell? ⟨g,i*2,none⟩=some (.string ⟨k.1.toArray⟩)∧w.cell? ⟨g,i*2+1,none⟩=some (.string ⟨k.2.toArray⟩):=
 ⟨ct (f:=sgC) (fun _=>rfl) h i k hk 0 (by omega) _ rfl,ct (f:=sgC) (fun _=>rfl) h i k hk 1 (by omega) _ rfl⟩
def clV(c:Clm)(sv:Value):Value:=.agg #[.string ⟨c.server.toArray⟩,.int .i64 c.ts,.string ⟨c.msg.toArray⟩,sv]
def eB(c:Clm)(sv:Value):Obj:=.cells #[.string ⟨c.server.toArray⟩,.int .i64 c.ts,.string ⟨c.msg.toArray⟩,sv] 111
theorem ei{w:World}{b:Nat}{c:Clm}{sv:Value}(h:w.heap[b]? =some (eB c sv)):
  w.cell? ⟨b,0,none⟩=some (.string ⟨c.server.toArray⟩)∧w.cell? ⟨b,1,none⟩=some (.int .i64 c.ts)∧w.cell? ⟨b,2,none⟩=some (.string ⟨c.msg.toArray⟩)∧w.cell? ⟨b,3,none⟩=some sv∧b < w.heap.size:=by
 unfold eB at h;refine⟨?_, ?_, ?_, ?_,ag h⟩ <;> simp[World.cell?,h]
structure ClK(c:Clm):Prop where
 srv:c.server.length≤1000
 msg:c.msg.length≤1000
 ids:∀p ∈ c.sigs,p.1.length≤1000
 num:c.sigs.length≤1000
theorem KN.kp2{w w':World}{F:Nat→Prop}{kb:Nat}{st:Ldg}{c:Nat}(h:KN w F kb st c)(K:Kp (fun _=>False) w w'):KN w' F kb st c:=by
 obtain⟨d,b,j,g,e,f,i,h⟩:=h;have a:=h.lt;exact⟨d,b,j,g,e,f,i,(K.block kb a.1 (by simp)).trans h.kblk,ay h.ms (K.block d a.2.1 (by simp)),ay h.mi (K.block b a.2.2.1 (by simp)),h.ss,h.si,h.look,h.vain,fun s t hs=>⟨(h.srv s t hs).1.kp K,(h.srv s t hs).2⟩,h.non,h.inj,h.off,h.mbib,h.lsm,h.lim,h.fk,h.fm,h.fi,h.fs⟩
theorem pM(w:World)(F:Nat→Prop)(kb:Nat)(st:Ldg)(c:Nat)(h:KN w F kb st c)(cl:Clm)(hcl:ClK cl)(B:Nat)(sv:Value)(row:w.ownsRow B 193 2 sv cl.sigs.length (cl.sigs.flatMap sgC)):
  Calls prog 60 #[.pointer (some ⟨kb,0,none⟩),clV cl sv] w fun e w'=>e=.returned (.bool (b8 st cl))∧Kp (fun _=>False) w w':=by
 obtain⟨z,A,rfl,R,x⟩:=aY row;have H:Kp (fun _=>False) w (w.alloc (eB cl (.slice z cl.sigs.length A))):=(Kp.refl _ _).alloc _;have G:=heap_alloc_new w (eB cl (.slice z cl.sigs.length A));have m:=ae (An row (An x (An h hcl)));have d:=ae (An H G);clear row x h hcl H G;unfold clV;unfold eB at d;go_enter func60,ntmps60;go_wp2_with fail
 generalize (w.alloc (.cells #[.string ⟨cl.server.toArray⟩,.int .i64 cl.ts,.string ⟨cl.msg.toArray⟩,.slice z cl.sigs.length A] 111))=w0 at *
 go_loopg [12] cl.sigs.length (fun gg a wx=>∃(i:Nat),gg=cl.sigs.length - i∧i≤cl.sigs.length∧a=.int .i64 (i:Int)∧Kp (fun _=>False) w0 wx∧∀(j:Nat) (p:Bs×Bs),j < i→cl.sigs[j]? =some p→bT st cl.server p.1 cl.ts=none)
 case atStart=>exact⟨0,rfl,by omega,rfl,Kp.refl _ _,fun _ _ h=>absurd h (by omega)⟩
 case round=>
  obtain⟨i,t,Q,rfl,r,b⟩:=hrel;have s:=d.o.1.trans r;have f:=ae (An t (An b (An r s)));obtain⟨M,N,U,V,P⟩:=ei (c:=cl) (sv:=.slice z cl.sigs.length A) (r.heap d.o.2);clear t b;by_cases D:i < cl.sigs.length
  ·have u:(i:Int) < (cl.sigs.length:Int):=by omega
   obtain⟨p,hp⟩:∃p,cl.sigs[i]? =some p:=⟨cl.sigs[i],List.getElem?_eq_getElem D⟩;obtain⟨g,rfl,W⟩:=m.o.2.1 (by omega);obtain⟨Y,Z⟩:=su (an m.o.1 s (by simp)) i p hp;have n:Kp (fun _=>False) wr (wr.alloc (.cells #[.string ⟨p.1.toArray⟩,.string ⟨p.2.toArray⟩] 193)):=(Kp.refl _ _).alloc _;have L:=heap_alloc_new wr (.cells #[.string ⟨p.1.toArray⟩,.string ⟨p.2.toArray⟩] 193);have a0:=n.cel M;have S:=n.cel N;have J:=ae m.o.2.2.1;have K:=ae (pi (wr.alloc (.cells #[.string ⟨p.1.toArray⟩,.string ⟨p.2.toArray⟩] 193)) F kb st c (J.o.kp2 (s.trans n)) cl.server p.1 (by have:=m.o.2.2.2.srv;omega) (by have:=m.o.2.2.2.ids p (List.mem_of_getElem? hp);omega) cl.ts);have y:=ae (An hp n);clear hp r s;go_wp2_with fail
   generalize (wr.alloc (.cells #[.string ⟨p.1.toArray⟩,.string ⟨p.2.toArray⟩] 193))=wa at *;have T:wa.cell? ⟨wr.heap.size,0,none⟩=some (.string ⟨p.1.toArray⟩):=by simp[World.cell?,L]
   clear n;refine K.o.mono ?_;rintro e X ⟨rfl,C⟩;have E:=ae (An (y.o.2.trans C) (f.o.2.2.1.trans (y.o.2.trans C)));clear C
   cases hm:bT st cl.server p.1 cl.ts with
   |none=>
    have l:Hid (∀(j:Nat) (q:Bs×Bs),j < i+1→cl.sigs[j]? =some q→bT st cl.server q.1 cl.ts=none):=by
     show ∀(j:Nat) (q:Bs×Bs),j < i+1→cl.sigs[j]? =some q→bT st cl.server q.1 cl.ts=none
     intro j q I v;rcases Nat.lt_or_ge j i with h | h
     ·exact f.o.2.1 j q h v
     ·have:j=i:=by omega
      subst this;rw[y.o.1]at v;injection v with v
      subst v;exact hm
    clear hm;simp only[Option.isSome_none];go_wp2;go_roundg (cl.sigs.length - (i+1))
    case measure=>rw[f.o.1];omega
    case rel=>exact⟨i+1,rfl,by omega,ak (by omega),E.o.2,l.o⟩
   |some k=>
    have l:Hid (b8 st cl=false):=by
     show _=_
     have:et st cl=true:=by
      unfold et;rw[List.any_eq_true];exact⟨p,List.mem_of_getElem? y.o.1,by simp[hm]⟩
     unfold b8;rw[this];simp
    clear hm;simp only[Option.isSome_some];go_wp2;go_ret;exact⟨by rw[l.o];rfl,f.o.2.2.2.trans E.o.1⟩
  ·have u:¬(i:Int) < (cl.sigs.length:Int):=by omega
   have l:Hid (b8 st cl=decide (0 < cl.sigs.length)):=by
    show _=_
    have:et st cl=false:=by
     unfold et;rw[List.any_eq_false];intro p hp;obtain⟨j,I,O⟩:=List.mem_iff_getElem.1 hp;have:=f.o.2.1 j p (by omega) (by rw[List.getElem?_eq_getElem I,O]);simp[this]
    unfold b8;rw[this];simp
   clear r s;go_wp2;go_ret;exact⟨by rw[l.o];simp[*],f.o.2.2.2⟩
end
section
open Go Go.RowKit Go.Maps Go.WideMaps Go.Sort Go.Shelf
def KpS(n0 ob:Nat)(W W':World):Prop:=W.heap.size≤W'.heap.size∧(∀k c t fz,W.heap[k]? =some (.cells c t fz)→t≠193→k≠ob→W'.heap[k]? =W.heap[k]?)∧(∀k es cl,k < n0→W.heap[k]? =some (.map es cl)→W'.heap[k]? =W.heap[k]?)
theorem KpS.t{n0 ob:Nat}{A B C:World}(h:KpS n0 ob A B)(k:KpS n0 ob B C):KpS n0 ob A C:=by
 refine⟨Nat.le_trans h.1 k.1, ?_, ?_⟩
 ·intro i c t fz a f g
  have e:=h.2.1 i c t fz a f g;exact (k.2.1 i c t fz (e.trans a) f g).trans e
 ·intro i b cl d a
  have e:=h.2.2 i b cl d a;exact (k.2.2 i b cl d (e.trans a)).trans e
theorem KpS.b{n0 ob:Nat}{w:World}(hn:n0≤w.heap.size)(W:World)(l:Nat)(o o':Obj)(hl:w.heap.size≤l)(h:W.heap[l]? =some o)(hc:o.isCells=false)(_:o.isWalk=false):KpS n0 ob W (W.putObj l o'):=by
 have d:=grownBy_putObj' W l o';refine⟨d.size, ?_, ?_⟩
 ·intro i c t fz a _ _
  refine d.block i (ag a) ?_;intro e;injection e with e
  subst e;rw[h]at a;injection a with a
  subst a;cases hc
 ·intro i f cl g a
  exact d.block i (ag a) (by intro e;injection e with e;omega)
attribute [local go_sem] Oper.semAt_some
theorem zw(n:Nat)(hn:3≤n)(lr bx b n0 ob:Nat)(m:List (Bs×Value))(hm:Srt m)(hml:m.length≤1000000)(hkl:∀p ∈ m,p.1.length≤139000000000000)(hif:∀p ∈ m,∃t u,p.2=.iface t u)(J Jx:List (Fin m.length)→World→Prop)
  (W:World) (hJ:AbidesFrom W.heap.size J)
  (hY:∀pre x W1,J pre W1→pre.length < m.length→YieldAt Fence.wide (n - 1) prog lr (gV m x) W1 fun e W'=>
    (e=.returned (.bool true)∧J (pre ++[x]) W'∧KpS n0 ob W1 W')∨(e=.returned (.bool false)∧Jx (pre ++[x]) W'))
  (hbx:W.heap[bx]? =some (.cells #[.map (some b)] 71)) (hbo:bx≠ob) (hob:ob < W.heap.size) (hown:W.ownsMap prog 9 Rv b m.length (dm m)) (hbn:b < n0) (h0:J [] W) :
  CallsIn Fence.wide n prog 213 #[.func (.yield lr) #[] #[],.pointer (some ⟨bx,0,none⟩)] W fun e W'=>(∃v,e=.returned v) ∧
   ((∃xs,xs=List.finRange m.length∧J xs W')∨(∃pre,True∧Jx pre W')):=by
 obtain⟨cx,fx⟩:=aj hbx;have B:Maps.size (dm m)=m.length:=gm m;refine callsIn_of_wp func213 rfl trivial ?_ rfl;simp only[ntmps213,List.size_toArray,List.length_cons,List.length_nil,Nat.reduceAdd,Nat.reduceSub,Array.replicate_succ,Array.replicate_zero,List.push_toArray,List.append_toArray,List.nil_append,List.cons_append];have ah:1≤n:=by omega
 have am:Fence.wide.fn 215:=trivial;have an:Fence.wide.fn 214:=trivial
 gi_wp2_with (first
   | (gi_at_call 215;refine (callsIn_wide.2 (callsIn_wide.1 (Tryz.maps_Keys_215 _ _))).mono ?_;rintro e w' ⟨rfl,rfl⟩)
   | (gi_at_call 214;refine (callsIn_wide.2 (callsIn_wide.1 (Tryz.slices_Sorted_keys_214_215 b m.length (dm m) Rv W hown (by rw[B];unfold maxLen;omega) (by rw[B];omega)))).mono ?_;rintro e w' ⟨v,ss,rfl,Y,s,I,T⟩;obtain⟨sa,af,g,X,rfl,j⟩:=cG s))
 have K:ss.length=m.length:=by rw[Y.length_eq];simp[strKeys,dm]
 rw[jA hm Y]at j;have J2:J [] w':=hJ [] _ _ none (hJ [] _ _ none h0 (World.grownBy_alloc W _ none) (fun r e=>by cases e)) (jp T) (fun r e=>by cases e);have D:w'.heap[bx]? =some (.cells #[.map (some b)] 71):=(T.block bx (by simp;have:=ag hbx;omega)).trans ((Below.heap_alloc _ _ _ (ag hbx)).trans hbx);have A:w'.ownsMap prog 9 Rv b m.length (dm m):=ay hown ((T.block b (by simp;have:=hown.lt;omega)).trans (Below.heap_alloc _ _ _ hown.lt))
 have E:0 < m.length→g≠ob:=by
  intro h;rw[K]at j;have:=(j h).2.1;simp at this;omega
 clear s I Y;generalize ss.length=L at *;subst K;have U:=ae (An j E);clear j E B cx fx T;gi_wp2_with fail
 have ap:(m.length:Int)≤1000000:=by omega
 gi_loopw [9] (fun i wr=>∃k:Nat,k≤m.length∧i=.int .i64 (k:Int)∧J ((List.finRange m.length).take k) wr∧wr.heap[bx]? =some (.cells #[.map (some b)] 71)∧(0 < m.length→wr.heap[g]? =some (.cells X 9))∧wr.ownsMap prog 9 Rv b m.length (dm m)) (fun i _=>m.length - (intOf i).toNat)
 case atStart=>exact⟨0,by omega,rfl,by simpa using J2,D,fun h=>(U.o.1 h).2.2.1,A⟩
 case round=>
  obtain⟨k,hk,rfl,w,y,F,z⟩:=hrel;by_cases a:k < m.length
  ·obtain⟨rfl,ao,Z,ad,q⟩:=U.o.1 (by omega)
   have c:=F (by omega);obtain⟨tt,u,d⟩:=hif m[k] (List.getElem_mem a)
   have al:wr.cell? ⟨g,k,none⟩=some (.string ⟨m[k].1.toArray⟩):=by
    have S:=q k a;simp only[List.getElem?_map,List.getElem?_eq_getElem a,Option.map_some]at S;simp[World.cell?,c,S]
   have f:ai m[k].1 m=some m[k].2:=kB m hm k a;obtain⟨lv,aq,aa,l⟩:=z.lookup ed underlying71 (kQ wr) (R:=Rv) (zd:=.held .nilIface) (zp:=[]) rfl (dj (hkl m[k] (List.getElem_mem a)))
   have H:lv=.iface tt u:=by
    rw[l7,f]at l;simp only[Rv,Option.some.injEq,Prod.mk.injEq,DataW.held.injEq]at l;rw[l.1,d]
   rw[H]at aa;obtain⟨cx,fx⟩:=aj y;have ab:((List.finRange m.length).take k).length < m.length:=by simp;omega
   obtain⟨fn,tmps,Q,ac,hy,hR⟩:=hY _ ⟨k,a⟩ wr w ab;simp only[gV,Fin.getElem_fin,d]at hy;generalize m[k].1=key at *;have G:decide ((k:Int) < (m.length:Int))=true:=by simp;omega
   have C:=ae (An y (An c z));clear f l H d y F c z q Z
   have M:(List.finRange m.length).take (k+1)=(List.finRange m.length).take k ++[⟨k,a⟩]:=by
    rw[List.take_succ_eq_append_getElem (by simpa using a)];simp
   have HT:=ae M;clear M;gi_wp2
   refine hR.mono ?_;rintro e W3 (⟨rfl,hJ3,hk3⟩ | ⟨rfl,hJx3⟩)
   ·have N:=hk3.2.1 bx _ _ _ C.o.1 (by decide) hbo
    have O:=hk3.2.1 g _ _ _ C.o.2.1 (by decide) (U.o.2 (by omega))
    have P:W3.ownsMap prog 9 Rv b m.length (dm m):=by
     obtain⟨es,cl,q1,q2⟩:=C.o.2.2;exact⟨es,cl,(hk3.2.2 b es cl hbn q1).trans q1,q2⟩
    have V:=ae (An (N.trans C.o.1) (An (O.trans C.o.2.1) P));clear N O P;gi_wp2
    go_roundw
    case rel=>exact⟨k+1,by omega,ak (by omega),by rw[HT.o];exact hJ3,V.o.1,fun _=>V.o.2.1,V.o.2.2⟩
    case measure=>simp[intOf];omega
   ·gi_wp2
    refine bodyPost_ret (results_none rfl _ _ _) rfl ?_;exact⟨⟨_,rfl⟩,.inr ⟨_,trivial,hJx3⟩⟩
  ·have G:decide ((k:Int) < (m.length:Int))=false:=by simp;omega
   gi_wp2
   go_end0
   refine⟨⟨_,rfl⟩,.inl ⟨_,rfl, ?_⟩⟩;have S:(List.finRange m.length).take k=List.finRange m.length:=List.take_of_length_le (by simp;omega);rw[S]at w;exact w
end
section
open Go Go.RowKit Go.Maps Go.WideMaps Go.Sort Go.Shelf
attribute [local go_sem] Oper.semAt_some
theorem Dq:(prog.info? 193).map (fun i=>(i.zero,i.size,i.bytes))=some (some (.agg #[.string ⟨#[]⟩,.string ⟨#[]⟩]),2,32):=by kernel_rfl
def SIv(X0:World)(kb:Nat)(m:List (Bs×J))(n:Nat)(pre:List (Fin n))(X:World):Prop:=
 ∃vv ys,X.heap[kb]? =some (.cells #[vv] 109)∧X.ownsRow X0.heap.size 193 2 vv ys.length (ys.flatMap sgC)∧(pre.map fun i=>cD m i.val).filterMap sgP=ys∧Kp (· =kb) X0 X
theorem SIv.own{X0:World}{kb:Nat}{m:List (Bs×J)}{n:Nat}:OwnFrom X0.heap.size (SIv X0 kb m n):=by
 rintro pre X Y row ⟨p,o,i,c,j,l⟩ a b;refine⟨p,o,bC a (fun r e=>(b r e).2) i,ap c ?_,j,l.gr a (fun r e=>(b r e).1)⟩;intro k e;obtain⟨_,⟨rfl,_⟩ | ⟨g,f,h,rfl,_,d,_⟩⟩:=c
 ·cases e
 ·injection e with e
  subst e;rw[bC a (fun r e=>(b r e).2) d,d]
theorem Ad{X0 X1 X5 X6:World}{kb:Nat}{m:List (Bs×J)}{n:Nat}{pre:List (Fin n)}{x:Fin n}{vv v':Value}{ks:List (Bs×Bs)}{kk:Bs×Bs}
  (K0:Kp (· =kb) X0 X1) (h15:Kp (fun _=>False) X1 X5) (row:X1.ownsRow X0.heap.size 193 2 vv ks.length (ks.flatMap sgC)) (hk1:X1.heap[kb]? =some (.cells #[vv] 109)) (hkb:kb < X0.heap.size)
  (y1:X6.ownsRow X0.heap.size 193 2 v' (ks.length+1) (ks.flatMap sgC ++sgC kk)) (y2:X5.grownBy X6 vv.ownBlock) (hF:((pre ++[x]).map fun i=>cD m i.val).filterMap sgP=ks ++[kk]) :
  KeepsOthers X1 (X6.setCell ⟨kb,0,none⟩ v')∧KpS X0.heap.size kb X1 (X6.setCell ⟨kb,0,none⟩ v')∧SIv X0 kb m n (pre ++[x]) (X6.setCell ⟨kb,0,none⟩ v'):=by
 have b:Kp (fun k=>k=kb∨vv.ownBlock=some k) X1 (X6.setCell ⟨kb,0,none⟩ v'):=
  Kp.setCell (S:=fun k=>k=kb∨vv.ownBlock=some k) (p:=⟨kb,0,none⟩) ((h15.mono (fun _ _ h=>h.elim)).grown y2 (fun k e _=>Or.inr e)) (fun _=>Or.inl rfl) _
 have q:X6.heap[kb]? =some (.cells #[vv] 109):=by
  rw[y2.block kb (Nat.lt_of_lt_of_le (ag hk1) h15.size) ?_]
  ·exact h15.heap hk1
  ·intro e
   have:=(row.lt _ e.symm).1;omega
 refine⟨m9 b ?_,⟨b.size, ?_, ?_⟩,v',ks ++[kk],d8 q _, ?_,hF, ?_⟩
 ·rintro k (rfl | e)
  ·exact⟨_,_,_,hk1⟩
  ·obtain⟨c,d⟩:=gy row e
   exact⟨_,_,_,d⟩
 ·intro k c t fz a l o
  refine b.block k (ag a) ?_;rintro (e | e)
  ·exact o e
  ·obtain⟨f,d⟩:=gy row e
   rw[d]at a;injection a with a
   injection a with _ a _
   exact l a.symm
 ·intro k s cl u a
  refine b.block k (ag a) ?_;rintro (rfl | e)
  ·rw[hk1]at a;injection a with a;cases a
  ·obtain⟨f,d⟩:=gy row e
   rw[d]at a;injection a with a;cases a
 ·have g:List.flatMap sgC (ks ++[kk])=ks.flatMap sgC ++sgC kk:=by simp
  rw[g,List.length_append];refine ap y1 ?_;intro j r;have:=(y1.lt j r).1;rw[af (by exact (show j≠kb by omega))]
 ·refine K0.and b ?_
  rintro k hk (e | e)
  ·exact e
  ·have:=(row.lt k e).1
   omega
theorem xj{d:Nat}{k:Bs}{l:List (Bs×J)}(hwf:WF (d+2) (.obj l))(hcl:(cJ (.obj l)).length≤600):WF (d+1) (.obj (aq k l))∧(cJ (.obj (aq k l))).length≤600:=by
 refine⟨iw d k l hwf, ?_⟩;unfold aq;split
 ·rename_i m hm
  exact Nat.le_trans (eQ hm) hcl
 ·simp[c7,aB]
theorem zC{d:Nat}{m:List (Bs×J)}(hw:WF (d+1) (.obj m))(hl:(cJ (.obj m)).length≤600):Srt m∧m.length≤1000∧∀p ∈ m,p.1.length≤1000:=by
 have c:Srt m:=by
  simp only[WF]at hw;exact hw.1
 have b:=fS (.obj m);have f:=(eq m).1;simp only[cnt]at b;refine⟨c,by omega, ?_⟩;intro p hp;have a:=pl hp;have e:=jU p.1;unfold aD at a;rw[List.length_append]at a;omega
theorem Ds{s:Bs}{l:List (Bs×J)}(hwf:WF 6 (.obj l))(hcl:(cJ (.obj l)).length≤600):Srt (aq s (aq kSig l))∧(aq s (aq kSig l)).length≤1000∧∀p ∈ aq s (aq kSig l),p.1.length≤1000:=by
 obtain⟨a,b⟩:=xj (k:=kSig) hwf hcl;obtain⟨c,d⟩:=xj (k:=s) a b;exact zC c d
theorem pG(w:World)(l:List (Bs×J))(b:Nat)(ho:Oz w l b)(hwf:WF 6 (.obj l))(hcl:(cJ (.obj l)).length≤600)(s:Bs)(hs:s.length≤1000):
  Calls prog 157 #[.map (some b),.string ⟨s.toArray⟩] w fun e w'=>Kp (fun _=>False) w w'∧∃v,e=.returned v∧w'.ownsRow w.heap.size 193 2 v (aG l s).length ((aG l s).flatMap sgC):=by
 refine (callsIn_wide (n:=8)).1 ?_;refine callsIn_of_wp_marks func157 rfl trivial ?_ rfl;simp only[ntmps157,List.size_toArray,List.length_cons,List.length_nil,Nat.reduceAdd,Nat.reduceSub,Array.replicate_succ,Array.replicate_zero,List.push_toArray,List.append_toArray,List.nil_append,List.cons_append];have aJ:Fence.wide.fn 170:=trivial;have aK:Fence.wide.fn 75:=trivial;have K0:Kp (fun _=>False) w (w.alloc (.cells #[.slice none 0 0] 109)):=(Kp.refl _ _).alloc _;have I0:=heap_alloc_new w (.cells #[.slice none 0 0] 109);have HO:=ae (ho.up K0);have T:=ae (gw _ l b kSig (by decide) HO.o);clear ho;gi_wp2_with fail
 generalize (w.alloc (.cells #[.slice none 0 0] 109))=w0 at *;refine (callsIn_wide.2 T.o).mono ?_;rintro e w1 ⟨b1,rfl,K1,o1⟩;have U:=ae (gw w1 (aq kSig l) b1 s (by omega) o1);clear T o1 HO;gi_wp2_with fail
 refine (callsIn_wide.2 U.o).mono ?_;rintro e w2 ⟨P,rfl,K2,o2⟩;have Y:=K1.trans K2;have I2:=Y.heap I0;have ai:=K0.trans Y;clear U K1 K2;gi_wp2_with (gi_at_call 170;refine (callsIn_wide.2 (lJ _ _)).mono ?_;rintro e w' ⟨rfl,rfl⟩)
 have KX:Kp (fun _=>False) w2 (w2.alloc (.cells #[.map (some P)] 71)):=(Kp.refl _ _).alloc _;have x3:=heap_alloc_new w2 (.cells #[.map (some P)] 71);have ab:(w2.alloc (.cells #[.map (some P)] 71)).heap.size=w2.heap.size+1:=by simp
 generalize (w2.alloc (.cells #[.map (some P)] 71))=X0 at *;have ah:=KX.heap I2;have ar:=o2.up KX;have Z:=ai.trans KX;obtain⟨au,aL,an⟩:=Ds (s:=s) hwf hcl;have af:aG l s=(aq s (aq kSig l)).filterMap sgP:=rfl;generalize aq s (aq kSig l)=m at *;obtain⟨b',a,e',aI,y,d⟩:=ar.shape;cases e'
 have H:=Repm.len d;have av:Srt a:=iV (Repm.keys m a d) au
 have ao:∀p ∈ a,p.1.length≤139000000000000:=by
  intro p hp;obtain⟨j,E,rfl⟩:=List.getElem_of_mem hp;obtain⟨q,r1,r2,r3,r4⟩:=Repm.get m a j E d;rw[r3];have:=an q r2;omega
 have am:∀p ∈ a,∃t u,p.2=.iface t u:=by
  intro p hp;obtain⟨j,E,rfl⟩:=List.getElem_of_mem hp;obtain⟨q,r1,r2,r3,r4⟩:=Repm.get m a j E d;exact Rep.iface r4
 have al:=y.lt;have aO:=ag I2;have ak:SIv X0 w.heap.size m a.length [] X0:=⟨_,[],ah,⟨by simp,Or.inl ⟨rfl,rfl⟩⟩,rfl,Kp.refl _ _⟩
 refine wpIn_rangeFunc_ownF (α:=Fin a.length) rfl (by decide) (gf:=213) (lb:= #[.pointer (some ⟨w2.heap.size,0,none⟩)]) rfl trivial (enters_of func213 (by kernel_rfl) rfl)
  (encs:=gV a) (Kp:=KpS X0.heap.size w.heap.size) (S:=fun xs=>xs=List.finRange a.length) (Sp:=fun _=>True) (N:=a.length) (w0:=X0)
  (fun lr J Jx W1 hbl hJ _ hY h0=>zw 7 (by decide) lr w2.heap.size P X0.heap.size w.heap.size a av (by omega) ao am J Jx W1 hJ hY ((hbl.block _ (by omega)).trans x3) (by omega) (by have:=hbl.size;omega) (ay y (hbl.block _ (by omega))) al h0)
  KpS.t (KpS.b (Nat.le_refl _)) (Below.refl _ _) (fun _=>rfl)
  (SIv X0 w.heap.size m a.length) (fun _ _ _=>False) SIv.own (fun _=>fun _ _ _ _ h=>h.elim) ak
  (fun x=>{ tmps:= #[Value.map (some b),Value.string ⟨s.toArray⟩,undef,undef,Value.slice none 0 0,Value.pointer (some ⟨w.heap.size,0,none⟩),.string ⟨a[x].1.toArray⟩,a[x].2,undef,undef,Value.map (some b),Value.map (some b1),Value.string ⟨s.toArray⟩,Value.map (some P),Value.func (Fn.func 213) #[] #[Value.pointer (some ⟨w2.heap.size,0,none⟩)],.string ⟨a[x].1.toArray⟩,a[x].2,undef,undef,undef,undef,undef,undef,undef,undef,undef,undef,undef,undef,undef],defers:=[] }) ?assign ?body ?done ?stop
 case assign=>
  intro l x W K hK;simp only[gV];gi_wp2
  exact hK
 case body=>
  rintro lr pre x X ⟨vv,R,Q,i2,i3,i4⟩ aC;obtain⟨p,I,ad,L,M⟩:=Repm.get m a x.val x.2 d;have ac:a[x].1=p.1:=L;have A:Rep X0 _ p.2 a[x].2:=M;generalize a[x].2=xv at *;generalize a[x].1=xk at ac ⊢;subst ac;have k:cD m x.val=p:=by unfold cD;rw[I];rfl
  have B:((pre ++[x]).map fun i=>cD m i.val).filterMap sgP=R ++[p].filterMap sgP:=by rw[List.map_append,List.filterMap_append,i3,List.map_cons,List.map_nil,k]
  have C:UdV X0 (some p.2) xv:=Rep.mono (fun j E=>E) _ A;obtain⟨ck,gk⟩:=aj Q
  have aB:R.length≤pre.length:=by
   rw[←i3];have:=List.length_filterMap_le sgP (pre.map fun i=>cD m i.val);simpa using this
  have aD:pre.length < 100000:=by omega
  obtain⟨tt,uu,hxi⟩:∃t u,xv=.iface t u:=by
   rcases C.shape with h | h
   ·have:=Rep.iface A
    rw[h]at this;obtain⟨_,_,e⟩:=this;cases e
   ·exact h
  rcases yh C with⟨t,f,O⟩ | ⟨f,O⟩
  ·have z:sgP p=some (p.1,t):=by
    unfold sgP;unfold dS at f;split at f
    ·rename_i q hq
     injection hq with hq
     injection f with f
     rw[hq,f]
    ·cases f
   have hF:((pre ++[x]).map fun i=>cD m i.val).filterMap sgP=R ++[(p.1,t)]:=by rw[B];simp[z]
   have HF:=ae hF;clear hF B z f A M C k i3 I ad L;rw[hxi]at O ⊢;have F:=i2.alloc (.cells #[.string ⟨p.1.toArray⟩,.string ⟨t.toArray⟩] 193);have G:Kp (fun _=>False) X (X.alloc (.cells #[.string ⟨p.1.toArray⟩,.string ⟨t.toArray⟩] 193)):=(Kp.refl _ _).alloc _;obtain⟨i0,hi,aw,ax,az⟩:=info_parts Dq;have aM:=i4.size;gi_wp2_with (gi_at_builtin;(refine wpListIn_append_own_at _ rfl _ _ 109 rfl X0.heap.size 193 i0 (.agg #[.string ⟨#[]⟩,.string ⟨#[]⟩]) 2 32 underlying109 hi aw ax az rfl (by decide) _ _ _ rfl F ⟨X.heap.size,0,none⟩ 1 1 (sgC (p.1,t)) rfl rfl ?_ (by intro u hu;simp[sgC]at hu;rcases hu with rfl | rfl <;> rfl) (by unfold maxLen;omega) (by omega) (by simp;omega) ?_))
   ·intro j u E
    rcases j with _ | _ | j
    all_goals simp[sgC]at E
    all_goals subst E
    all_goals simp[Addr.add]
   intro v' X6 y1 y2 _ _;rw[←ab]at y1;obtain⟨aP,aQ,rfl,_,_⟩:=aY y1
   have k6:X6.heap[w.heap.size]? =some (.cells #[vv] 109):=by
    have h9:=G.heap Q;rw[y2.block _ (ag h9) ?_]
    ·exact h9
    ·intro e
     have:=(i2.lt _ e.symm).1;omega
   obtain⟨aE,aH⟩:=aj k6;have V:=ae (Ad (m:=m) (pre:=pre) (x:=x) i4 G i2 Q (by omega) y1 y2 HF.o);clear y1 y2 ck gk F G;gi_wp2
   exact V.o
  ·have z:sgP p=none:=by
    unfold sgP;unfold dS at f;split
    ·rename_i q hq
     rw[hq]at f;cases f
    ·rfl
   have hF:((pre ++[x]).map fun i=>cD m i.val).filterMap sgP=R:=by rw[B];simp[z]
   have HF:=ae hF;clear hF B z f A M C k i3 I ad L;rw[hxi]at O ⊢;gi_wp2
   exact⟨KeepsOthers.refl _,⟨Nat.le_refl _,fun _ _ _ _ _ _ _=>rfl,fun _ _ _ _ _=>rfl⟩,vv,R,Q,i2,HF.o,i4⟩
 case done=>
  rintro D R X hD rfl ⟨vv,ks,Q,i2,i3,i4⟩ hK;rw[qd m a.length H]at i3;have aa:Kp (fun _=>False) w X:=Z.and i4 (by intro i hi e;omega);obtain⟨ck,_⟩:=aj Q;obtain⟨va,vc,rfl,_,_⟩:=aY i2;have HZ:=ae (af.trans i3);clear af i3;gi_wp2_with fail
  have hg:=grownBy_putObj' X D (.deferred none);have hr:∀r,some D=some r→∃o:Obj,X.heap[r]? =some o∧o.isCells=false:=fun r e=>by cases e;exact⟨_,hK,rfl⟩
  refine⟨by simp,.inl ⟨_,_,rfl,run_takeDeferred hK, ?_⟩⟩;refine⟨_,results_tmp rfl _ _ _, ?_⟩;rw[HZ.o];have aN:=Z.size;refine⟨aa.gr hg (fun r e=>by cases e;omega),_,rfl,cr (by omega) (ap i2 ?_)⟩;intro k' e;obtain⟨_,⟨e1,_⟩ | ⟨g,aA,aF,e1,_,hh,_⟩⟩:=i2
  ·rw[e1]at e;cases e
  ·rw[e1]at e
   injection e with e
   subst e;rw[bC hg hr hh,hh]
 case stop=>
  rintro D c pre X hD _ h hK;exact h.elim
end
section
open Go Go.RowKit Go.Maps
attribute [local go_sem] Oper.semAt_some
def evC(pv:Option Addr)(sv:Value)(at':Int)(msg:Bs):Obj:=.cells #[.pointer pv,sv,.int .i64 at',.string ⟨msg.toArray⟩] 263
theorem dr{w:World}{b:Nat}{pv:Option Addr}{sv:Value}{at':Int}{msg:Bs}(h:w.heap[b]? =some (evC pv sv at' msg)):
  w.cell? ⟨b,0,none⟩=some (.pointer pv)∧w.cell? ⟨b,1,none⟩=some sv∧w.cell? ⟨b,2,none⟩=some (.int .i64 at')∧w.cell? ⟨b,3,none⟩=some (.string ⟨msg.toArray⟩)∧b < w.heap.size:=by
 unfold evC at h;refine⟨?_, ?_, ?_, ?_,ag h⟩ <;> simp[World.cell?,h]
def StR(w:World)(l:List (Bs×J))(s:Bs)(e:Ending)(w':World):Prop:=
 ∃(y:List (Bs×Bs)) (vi vs:Value),e=.returned (.tuple #[vi,vs])∧Kp (fun _=>False) w w'∧w'.ownsRow w.heap.size 9 1 vi y.length (y.map fun p=>.string ⟨p.1.toArray⟩)∧w'.ownsRow w.heap.size 9 1 vs y.length (y.map fun p=>.string ⟨p.2.toArray⟩)∧y.length≤700∧∀p,p ∈ y↔p ∈ aG l s
theorem sw{l:List (Bs×J)}{s:Bs}(h:∀m,bP s (bP kSig (some (.obj l)))≠some (.obj m)):aG l s=[]:=by
 unfold aG
 have e:aq s (aq kSig l)=[]:=by
  have a:bP s (bP kSig (some (.obj l)))=ai s (aq kSig l):=by
   show bP s (ai kSig l)=_
   unfold aq
   cases ai kSig l with
   |none=>rfl
   |some j=>cases j <;> rfl
  rw[a]at h;unfold aq at h ⊢;split
  ·rename_i m hm
   exact absurd hm (h m)
  ·rfl
 rw[e];rfl
theorem Ac{l m:List (Bs×J)}{s:Bs}(h:bP s (bP kSig (some (.obj l)))=some (.obj m)):aG l s=m.filterMap sgP:=by
 unfold aG
 have a:bP s (bP kSig (some (.obj l)))=ai s (aq kSig l):=by
  show bP s (ai kSig l)=_
  unfold aq
  cases ai kSig l with
  |none=>rfl
  |some j=>cases j <;> rfl
 rw[a]at h;generalize aq kSig l=q at *
 have e:aq s q=m:=by
  unfold aq;rw[h]
 rw[e]
theorem sC{w w':World}{l:List (Bs×J)}{s:Bs}(h:aG l s=[])(K:Kp (fun _=>False) w w'):StR w l s (.returned (.tuple #[.slice none 0 0,.slice none 0 0])) w':=
 ⟨[],_,_,rfl,K,World.ownsRow_nil _ _ _ _,World.ownsRow_nil _ _ _ _,by simp,fun p=>by rw[h]⟩
theorem io(w:World)(eb:Nat)(pv:Option Addr)(sv:Value)(at':Int)(msg:Bs)(l:List (Bs×J))(hE:w.heap[eb]? =some (evC pv sv at' msg))(PJ:PoJ w pv (some (.obj l)))(s:Bs):
  Calls prog 182 #[.pointer (some ⟨eb,0,none⟩),.string ⟨s.toArray⟩] w fun e w'=>StR w l s e w':=by
 obtain⟨i0,hi,af,ag,ah⟩:=info_parts ew;obtain⟨e0,e1,d,e3,aA⟩:=dr hE;go_enter func182,ntmps182;go_wp2_with fail
 refine (fT w pv _ PJ kSig).mono ?_;rintro e w1 ⟨pa,rfl,rfl,PA⟩;go_wp2_with fail
 refine (fT w1 _ _ PA s).mono ?_;rintro e w2 ⟨pm,rfl,rfl,PM⟩;clear PA PJ;rcases PM with⟨rfl,L⟩ | ⟨mb,j,rfl,L,Y,hr⟩
 ·have HN:=ae (sw (l:=l) (s:=s) (fun m=>by rw[L];simp))
  clear L;go_wp2_with fail
  go_loopg [6,7,10] 0 (fun gg a b c wx=>gg=0∧a=.slice none 0 0∧b=.slice none 0 0∧c=.int .i64 0∧wx=w2)
  case atStart=>exact⟨rfl,rfl,rfl,rfl,rfl⟩
  case round=>
   obtain⟨_,rfl,rfl,rfl,rfl⟩:=hrel;go_wp2;go_ret2
   exact sC HN.o (Kp.refl _ _)
 by_cases D:∃m,j=.obj m
 ·obtain⟨m,rfl⟩:=D
  obtain⟨x,Kv,Lv,hb,T,U,hN,hx,hm⟩:=hr.parts;have ac:=Ac L
  have aF:x.length≤700:=by
   have:=iu (x:=x) (by exact hN) (by rw[←hm];exact Y);omega
  have HS:=ae (An ac (An hN hm));clear L ac hN hm hr;obtain⟨ka,kc,rfl⟩:=aE T;obtain⟨la,lc,rfl⟩:=aE U
  have W:∀i p,x[i]? =some p→∃g,ka=some ⟨g,0,none⟩∧g < w2.heap.size∧w2.cell? ⟨g,i,none⟩=some (.string ⟨p.1.toArray⟩):=by
   intro i p hp;have E:=(List.getElem?_eq_some_iff.1 hp).1;obtain⟨_,⟨e,e0⟩ | ⟨g,aj,ao,e,_⟩⟩:=id T
   ·omega
   ·injection e with e1 d e3
    subst e1;exact⟨g,rfl,(T.lt g rfl).2,aL T i _ (by rw[List.getElem?_map,hp];rfl)⟩
  have X:∀i p,x[i]? =some p→∃g,la=some ⟨g,0,none⟩∧g < w2.heap.size∧w2.cell? ⟨g,i,none⟩=some (.pointer (some ⟨p.2.2,0,none⟩)):=by
   intro i p hp;have E:=(List.getElem?_eq_some_iff.1 hp).1;obtain⟨_,⟨e,e0⟩ | ⟨g,aj,ao,e,_⟩⟩:=id U
   ·omega
   ·injection e with e1 d e3
    subst e1;exact⟨g,rfl,(U.lt g rfl).2,aL U i _ (by rw[List.getElem?_map,hp];rfl)⟩
  have CK:=ae (An W (An X hx));clear W X T U hx;go_wp2_with fail
  go_loopg [6,7,10] x.length (fun gg a b c wx=>∃(i:Nat) (y:List (Bs×Bs)),gg=x.length - i∧i≤x.length∧c=.int .i64 (i:Int)∧Kp (fun _=>False) w2 wx∧y=((x.take i).map fun p=>(p.1,p.2.1)).filterMap sgP∧y.length≤i∧wx.ownsRow w2.heap.size 9 1 a y.length (y.map fun p=>.string ⟨p.1.toArray⟩)∧wx.ownsRow w2.heap.size 9 1 b y.length (y.map fun p=>.string ⟨p.2.toArray⟩)∧∀k,a.ownBlock=some k→b.ownBlock≠some k)
  case atStart=>exact⟨0,[],rfl,by omega,rfl,Kp.refl _ _,rfl,by simp,World.ownsRow_nil _ _ _ _,World.ownsRow_nil _ _ _ _,fun k h=>by cases h⟩
  case round=>
   obtain⟨i,y,hg,aB,rfl,n,hy,aG,ra,R,z⟩:=hrel;have S:=ae (An hg hy);clear hg hy;obtain⟨o0,o1,o2,o3,o4,_,_,_,_,_,ab⟩:=aw (vkp hb n);by_cases E:i < x.length
   ·have aa:(i:Int) < (x.length:Int):=by omega
    obtain⟨p,hp⟩:∃p,x[i]? =some p:=⟨x[i],List.getElem?_eq_getElem E⟩;obtain⟨kg,rfl,aq,ck⟩:=CK.o.1 i p hp;obtain⟨lg,rfl,Z,cl⟩:=CK.o.2.1 i p hp;have F:=CK.o.2.2 p.1 p.2.1 p.2.2 (List.mem_of_getElem? hp);have al:=(n.cell (p:=⟨kg,i,none⟩) aq (by simp)).trans ck;have am:=(n.cell (p:=⟨lg,i,none⟩) Z (by simp)).trans cl
    have ad:(x.take (i+1)).map (fun p=>(p.1,p.2.1))=(x.take i).map (fun p=>(p.1,p.2.1)) ++[(p.1,p.2.1)]:=by
     rw[List.take_succ_eq_append_getElem E,(List.getElem?_eq_some_iff.1 hp).2,List.map_append];rfl
    have HP:=ae ad;clear hp ad ck;by_cases B:aP p.2.1=34
    ·obtain⟨t,ht⟩:=kh B
     rw[ht]at F;have C:sgP (p.1,p.2.1)=some (p.1,t):=by rw[ht];rfl
     have v:=ae C;clear B ht C
     cases F with
     |str t hF hkb=>
      obtain⟨k0,k1,k2,k3,k4,_,_,_,_,_,f⟩:=aw (vkp hkb n);have aD:=n.size;have P:=ae (An n (An R (An z ra)));have an:=cl;clear n R z;go_wp2_with (at_builtin;(refine wpList_append_own_at _ rfl _ _ 36 rfl w2.heap.size 9 i0 (.string ⟨#[]⟩) 1 16 underlying36 hi af ag ah rfl (by decide) _ _ _ rfl (by exact World.ownsRow.alloc ra _) ⟨wr.heap.size,0,none⟩ 1 1 [.string ⟨p.1.toArray⟩] rfl rfl ?_ (by intro u hu;simp at hu;subst hu;rfl) (by unfold maxLen;omega) (by omega) (by simp;omega) ?_))
      ·intro j u D
       rcases j with _ | j
       all_goals simp at D
       subst D;simp[Addr.add]
      intro v3 w3 y1 y2 _ y3;obtain⟨M,N,rfl⟩:=aE y1;have Q:Kp (fun _=>False) w2 w3:=(P.o.1.alloc _).gr y2 (fun r e=>(ra.lt r e).1)
      have G:w3.ownsRow w2.heap.size 9 1 u7 y.length (y.map fun p=>.string ⟨p.2.toArray⟩):=ap P.o.2.1 (fun k e=>by
        have h1:=(P.o.2.1.lt k e).2;rw[y2.block k (by simp;omega) (fun d=>P.o.2.2.1 k d.symm e)];exact Below.heap_alloc _ _ _ h1)
      have V:=vkp hb Q;have K:=vkp hkb Q;have az:=(Q.cell (p:=⟨lg,i,none⟩) Z (by simp)).trans an;have aC:=Q.size;have au:wr.heap.size < w3.heap.size:=by have:=y2.size;simp at this;omega
      have H:∀k,(Value.slice M (y.length+1) N).ownBlock=some k→u7.ownBlock≠some k:=by
       intro k e d;rcases y3 with h | h
       ·exact P.o.2.2.1 k (h.symm.trans e) d
       ·rw[h]at e
        injection e with e
        have:=(P.o.2.1.lt k d).2;omega
      have O:=ae (An y1 (An Q (An G (An H au))));clear y1 y2 y3 ra o0 o1 o2 o3 o4 ab k0 k1 k2 k3 k4 f al am Q H;obtain⟨o0,o1,o2,o3,o4,_,_,_,_,_,ab⟩:=aw V;obtain⟨k0,k1,k2,k3,k4,_,_,_,_,_,f⟩:=aw K;go_wp2_with (at_builtin;(refine wpList_append_own_at _ rfl _ _ 36 rfl w2.heap.size 9 i0 (.string ⟨#[]⟩) 1 16 underlying36 hi af ag ah rfl (by decide) _ _ _ rfl (by exact World.ownsRow.alloc G _) ⟨w3.heap.size,0,none⟩ 1 1 [.string ⟨t.toArray⟩] rfl rfl ?_ (by intro u hu;simp at hu;subst hu;rfl) (by unfold maxLen;omega) (by omega) (by simp;omega) ?_))
      ·intro j u D
       rcases j with _ | j
       all_goals simp at D
       subst D;simp[Addr.add]
      intro v4 w4 z1 z2 _ z3;obtain⟨ax,ay,rfl⟩:=aE z1;have K4:Kp (fun _=>False) w2 w4:=(O.o.2.1.alloc _).gr z2 (fun r e=>(G.lt r e).1)
      have ai:w4.ownsRow w2.heap.size 9 1 (.slice M (y.length+1) N) (y.length+1) (y.map (fun p=>.string ⟨p.1.toArray⟩) ++[.string ⟨p.1.toArray⟩]):=ap O.o.1 (fun k e=>by
        have h1:=(O.o.1.lt k e).2;rw[z2.block k (by simp;omega) (fun d=>O.o.2.2.2.1 k e d.symm)];exact Below.heap_alloc _ _ _ h1)
      have I:∀k,(Value.slice M (y.length+1) N).ownBlock=some k→(Value.slice ax (y.length+1) ay).ownBlock≠some k:=by
       intro k e d;rcases z3 with h | h
       ·exact O.o.2.2.2.1 k e (h.symm.trans d)
       ·rw[h]at d
        injection d with d
        have:=(O.o.1.lt k e).2;omega
      have H4:=ae (An K4 (An ai (An z1 I)));clear K4 ai z1 I z2 z3 G V K;go_wp2;go_roundg (x.length - (i+1))
      case measure=>rw[S.o.1];omega
      case rel=>
       refine⟨i+1,y ++[(p.1,t)],rfl,by omega,ak (by omega),H4.o.1, ?_,by simp;omega, ?_, ?_,H4.o.2.2.2⟩
       ·rw[HP.o,List.filterMap_append,←S.o.2]
        simp[v.o]
       ·rw[List.map_append,List.length_append]
        exact H4.o.2.1
       ·rw[List.map_append,List.length_append]
        exact H4.o.2.2.1
    ·have ar:(((aP p.2.1:Nat):Int) == 34)=false:=by simp;omega
     have C:sgP (p.1,p.2.1)=none:=by
      unfold sgP;simp only[];split
      ·rename_i t ht
       rw[ht]at B;exact absurd rfl B
      ·rfl
     obtain⟨n2,t2,Kx,Lx,A⟩:=F.kind;obtain⟨k0,k1,k2,k3,k4,_,_,_,_,_,f⟩:=aw (vkp A n);have v:=ae (An C (An n (An ra (An R z))));clear C B F A n ra R z;generalize aP p.2.1=kd at *;go_wp2;go_roundg (x.length - (i+1))
     case measure=>rw[S.o.1];omega
     case rel=>
      refine⟨i+1,y,rfl,by omega,ak (by omega),v.o.2.1, ?_,by omega,v.o.2.2.1,v.o.2.2.2.1,v.o.2.2.2.2⟩;rw[HP.o,List.filterMap_append,←S.o.2];simp[v.o.1]
   ·have aa:¬(i:Int) < (x.length:Int):=by omega
    have v:=ae (An n (An ra R));clear n ra R z;go_wp2;go_ret2
    refine⟨y,_,_,rfl,v.o.1,v.o.2.1,v.o.2.2,by omega, ?_⟩;intro q;have av:y=(x.map fun p=>(p.1,p.2.1)).filterMap sgP:=by rw[S.o.2,List.take_of_length_le (by omega)]
    rw[av,HS.o.1,List.mem_filterMap,List.mem_filterMap,HS.o.2.2];exact⟨fun ⟨a,ha,h⟩=>⟨a,BZ HS.o.2.1 ha,h⟩,fun ⟨a,ha,h⟩=>⟨a,jN ha,h⟩⟩
 ·obtain⟨n2,t2,K2,L2,A⟩:=hr.kind
  obtain⟨k0,k1,k2,k3,k4,_,_,_,_,_,f⟩:=aw A
  have ar:(((aP j:Nat):Int) == 123)=false:=by
   have:aP j≠123:=by
    cases j with
    |obj m=>exact absurd ⟨m,rfl⟩ D
    |bool b=>cases b <;> simp[aP]
    |_=>simp[aP]
   simp;omega
  have HN:=ae (sw (l:=l) (s:=s) (fun m=>by rw[L];intro h;injection h with h;exact D ⟨m,h⟩));clear L hr A D Y;generalize aP j=kd at *;go_wp2_with fail
  go_loopg [6,7,10] 0 (fun gg a b c wx=>gg=0∧a=.slice none 0 0∧b=.slice none 0 0∧c=.int .i64 0∧wx=w2)
  case atStart=>exact⟨rfl,rfl,rfl,rfl,rfl⟩
  case round=>
   obtain⟨_,rfl,rfl,rfl,rfl⟩:=hrel;go_wp2;go_ret2
   exact sC HN.o (Kp.refl _ _)
structure REv(w:World)(lo hi eb vb:Nat)(sv:Value)(l:List (Bs×J))(ss:List Bs)(at':Int)(msg:Bs):Prop where
 blk:w.heap[eb]? =some (evC (some ⟨vb,0,none⟩) sv at' msg)
 tree:RR w (fun c=>lo≤c∧c < hi) (.obj l) vb
 row:w.ownsRow lo 9 1 sv ss.length (ss.map fun s=>.string ⟨s.toArray⟩)
 len:(cJ (.obj l)).length≤600
 mlen:msg.length≤1000
 ebl:lo≤eb∧eb < hi
 svl:∀k,sv.ownBlock=some k→k < hi
 hil:hi≤w.heap.size
theorem REv.frame{w w':World}{lo hi eb vb:Nat}{sv:Value}{l:List (Bs×J)}{ss:List Bs}{at':Int}{msg:Bs}(h:REv w lo hi eb vb sv l ss at' msg)(hs:w.heap.size≤w'.heap.size)(hk:∀k,lo≤k→k < hi→w'.heap[k]? =w.heap[k]?):REv w' lo hi eb vb sv l ss at' msg:=
 ⟨(hk eb h.ebl.1 h.ebl.2).trans h.blk,h.tree.frame (fun _ hk'=>hk _ hk'.1 hk'.2) (fun _ h=>h),ap h.row (fun k e=>hk k (h.row.lt k e).1 (h.svl k e)),h.len,h.mlen,h.ebl,h.svl,Nat.le_trans h.hil hs⟩
theorem REv.kp{w w':World}{F:Nat→Prop}{lo hi eb vb:Nat}{sv:Value}{l:List (Bs×J)}{ss:List Bs}{at':Int}{msg:Bs}(h:REv w lo hi eb vb sv l ss at' msg)(K:Kp F w w')(hF:∀k,F k→k < lo∨hi≤k):REv w' lo hi eb vb sv l ss at' msg:=
 h.frame K.size (fun k h1 h2=>K.block k (Nat.lt_of_lt_of_le h2 h.hil) (fun hf=>by rcases hF k hf with h | h <;> omega))
theorem REv.po{w:World}{lo hi eb vb:Nat}{sv:Value}{l:List (Bs×J)}{ss:List Bs}{at':Int}{msg:Bs}(h:REv w lo hi eb vb sv l ss at' msg):PoJ w (some ⟨vb,0,none⟩) (some (.obj l)):=
 Or.inr ⟨vb,_,rfl,rfl,h.len,h.tree.frame (fun _ _=>rfl) (fun _ hk=>Nat.lt_of_lt_of_le hk.2 h.hil)⟩
theorem lZ{α:Type}{y z:List α}(h:∀p,p ∈ y↔p ∈ z)(f:α→Bool):y.any f=z.any f:=by
 rw[Bool.eq_iff_iff,List.any_eq_true,List.any_eq_true];exact⟨fun ⟨p,hp,hf⟩=>⟨p,(h p).1 hp,hf⟩,fun ⟨p,hp,hf⟩=>⟨p,(h p).2 hp,hf⟩⟩
theorem RN.kp{w w':World}{F:Nat→Prop}{b:Nat}{nm id ky:Bs}{so:Value}{st:Ldg}{c:Nat}(h:RN w F b nm id ky so st c)(K:Kp (fun _=>False) w w'):RN w' F b nm id ky so st c:=by
 obtain⟨l,d,a,L,D,A,⟨e,f,g,i⟩,j⟩:=h;exact⟨l,d,a,L,D,A,⟨(K.block b (ag e) (by simp)).trans e,an f K (by simp),an g K (by simp),an i K (by simp)⟩,j⟩
theorem xS(w:World)(F:Nat→Prop)(b:Nat)(nm id ky:Bs)(so:Value)(st:Ldg)(c:Nat)(hR:RN w F b nm id ky so st c)(lo hi eb vb:Nat)(sv:Value)(l:List (Bs×J))(ss:List Bs)(at':Int)(msg:Bs)(hE:REv w lo hi eb vb sv l ss at' msg)(s:Bs):
  Calls prog 183 #[.pointer (some ⟨b,0,none⟩),.pointer (some ⟨eb,0,none⟩),.string ⟨s.toArray⟩] w fun e w'=>e=.returned (.bool (et st ⟨s,at',msg,aG l s⟩))∧Kp (fun _=>False) w w':=by
 have n:=ae (io w eb _ sv at' msg l hE.blk hE.po s);have K:=ae hR;have D:=ae hE.blk;clear hR hE;go_enter func183,ntmps183;go_wp2_with fail
 refine n.o.mono ?_;rintro e w1 ⟨y,V,W,rfl,G,C,_,P,d⟩;obtain⟨T,U,rfl,N,u⟩:=aY C;have r:=ae (An G (An C (An d u)));clear G C d u n;go_wp2_with fail
 go_loopg [9] y.length (fun gg q wx=>∃(i:Nat),gg=y.length - i∧i≤y.length∧q=.int .i64 (i:Int)∧Kp (fun _=>False) w1 wx∧∀(j:Nat) (p:Bs×Bs),j < i→y[j]? =some p→bT st s p.1 at'=none)
 case atStart=>exact⟨0,rfl,by omega,rfl,Kp.refl _ _,fun _ _ h=>absurd h (by omega)⟩
 case round=>
  obtain⟨i,t,O,rfl,z,a⟩:=hrel;have A:=r.o.1.trans z;have f:=ae (An t (An a (An z A)));clear t a;obtain⟨_,_,R,_,M⟩:=dr ((A.block _ (ag D.o) (by simp)).trans D.o);by_cases B:i < y.length
  ·have v:(i:Int) < (y.length:Int):=by omega
   obtain⟨p,hp⟩:∃p,y[i]? =some p:=⟨y[i],List.getElem?_eq_getElem B⟩;obtain⟨g,rfl,S⟩:=r.o.2.2.2 (by omega);have Q:wr.cell? ⟨g,i,none⟩=some (.string ⟨p.1.toArray⟩):=aL (an r.o.2.1 z (by simp)) i _ (by rw[List.getElem?_map,hp];rfl);have E:=ae hp;have I:=ae (r8 wr.drew F b nm id ky so st c (K.o.kp A.drew) s p.1 at');clear hp z A;go_wp2_with fail
   refine fG ?_ wr.drew ?_ ?_;rotate_left
   ·go_region_law (refine aF rfl 85 _ _ rfl #[.pointer (some ⟨b,0,none⟩),.string ⟨s.toArray⟩,.string ⟨p.1.toArray⟩,.int .i64 at'] (by go_simp) ?_;refine I.o.mono ?_;rintro e w2 ⟨rfl,rfl⟩)
    all_goals exact cF
   cases hm:bT st s p.1 at' with
   |none=>
    have m:Hid (∀(j:Nat) (q:Bs×Bs),j < i+1→y[j]? =some q→bT st s q.1 at'=none):=by
     show ∀(j:Nat) (q:Bs×Bs),j < i+1→y[j]? =some q→bT st s q.1 at'=none
     intro j q H x;rcases Nat.lt_or_ge j i with h | h
     ·exact f.o.2.1 j q h x
     ·have:j=i:=by omega
      subst this;rw[E.o]at x;injection x with x
      subst x;exact hm
    clear hm;simp only[Option.isSome_none];go_wp2;go_roundg (y.length - (i+1))
    case measure=>rw[f.o.1];omega
    case rel=>exact⟨i+1,rfl,by omega,ak (by omega),f.o.2.2.1.drew,m.o⟩
   |some k=>
    have m:Hid (et st ⟨s,at',msg,aG l s⟩=true):=by
     show _=_
     unfold et;rw[←lZ r.o.2.2.1,List.any_eq_true];exact⟨p,List.mem_of_getElem? E.o,by simp[hm]⟩
    clear hm;simp only[Option.isSome_some];go_wp2;go_ret;exact⟨by rw[m.o];rfl,f.o.2.2.2.drew⟩
  ·have v:¬(i:Int) < (y.length:Int):=by omega
   have m:Hid (et st ⟨s,at',msg,aG l s⟩=false):=by
    show _=_
    unfold et;rw[←lZ r.o.2.2.1,List.any_eq_false];intro p hp;obtain⟨j,H,L⟩:=List.mem_iff_getElem.1 hp;have:=f.o.2.1 j p (by omega) (by rw[List.getElem?_eq_getElem H,L]);simp[this]
   go_wp2;go_ret;exact⟨by rw[m.o];rfl,f.o.2.2.2⟩
theorem sp(w:World)(F:Nat→Prop)(b:Nat)(nm id ky:Bs)(so:Value)(st:Ldg)(c:Nat)(hR:RN w F b nm id ky so st c)(lo hi eb vb:Nat)(sv:Value)(l:List (Bs×J))(ss:List Bs)(at':Int)(msg:Bs)(hE:REv w lo hi eb vb sv l ss at' msg)(s:Bs):
  Calls prog 145 #[.pointer (some ⟨b,0,none⟩),.pointer (some ⟨eb,0,none⟩),.string ⟨s.toArray⟩] w fun e w'=>e=.returned (.bool (b8 st ⟨s,at',msg,aG l s⟩))∧Kp (fun _=>False) w w':=by
 have d:=ae (io w eb _ sv at' msg l hE.blk hE.po s);have m:=ae (An hR hE);clear hR hE;go_enter func145,ntmps145;go_wp2_with fail
 refine d.o.mono ?_;rintro e w1 ⟨y,B,C,rfl,f,t,_,x,a⟩;obtain⟨z,A,rfl,v,h⟩:=aY t;have u:=ae (An f a);have i:=ae (xS w1 F b nm id ky so st c (m.o.1.kp f) lo hi eb vb sv l ss at' msg (m.o.2.kp f (by simp)) s)
 have k:Hid (decide (0 < (aG l s).length)=decide (0 < y.length)):=by
  show _=_
  rw[Bool.eq_iff_iff,decide_eq_true_iff,decide_eq_true_iff,List.length_pos_iff_exists_mem,List.length_pos_iff_exists_mem];exact⟨fun ⟨p,hp⟩=>⟨p,(a p).2 hp⟩,fun ⟨p,hp⟩=>⟨p,(a p).1 hp⟩⟩
 clear f t a h d;go_wp2_with fail
 refine i.o.mono ?_;rintro e w2 ⟨rfl,q⟩;have j:=ae (u.o.1.trans q)
 have n:Hid (b8 st ⟨s,at',msg,aG l s⟩=(decide (0 < y.length) && !et st ⟨s,at',msg,aG l s⟩)):=by
  show _=_
  unfold b8;show (decide (0 < (aG l s).length) && _)=_
  rw[k.o]
 clear q i k;generalize et st ⟨s,at',msg,aG l s⟩=hb at *;by_cases r:0 < y.length
 ·have g:(0:Int) < (y.length:Int):=by omega
  go_wp2;go_ret;exact⟨by rw[n.o];simp[r],j.o⟩
 ·have g:¬(0:Int) < (y.length:Int):=by omega
  go_wp2;go_ret;exact⟨by rw[n.o];simp[r],j.o⟩
end
end Go.Proofs.YtocligpfmfmihaaGreatDoor
