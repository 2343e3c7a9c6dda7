import Derived.Test.YtocligpfmfmihaaGreatDoorRef9G
import Derived.Test.YtocligpfmfmihaaGreatDoorRd3G
set_option maxHeartbeats 2000000
set_option maxRecDepth 20000
namespace Go.Proofs.YtocligpfmfmihaaGreatDoor
open Go.Proofs.Tryz
section
open Go Go.RowKit Go.Maps
theorem aQ{P:Program}(w:World){ops:Array Oper}{ah:List Oper}{o:Oper}{a:Act}{Q:Exit→Act→World→Prop}(hgd:o.guard=none)(s x:Operand)(t:TypeId)
  (ho:o.op=.call { callee:=.builtin .append,args:= #[s,x],argTypes:= #[t,t] })
  (base:Nat) (e:TypeId) (i:TypeInfo) (z:Value) (size bytes:Nat) (ht:P.underlying t=some (.slice e)) (hi:P.info? e=some i) (hz:i.zero=some z)
  (hsize:i.size=size) (hby:i.bytes=bytes) (hzs:z.cells.size=size) (hsz:0 < size)
  (v:Value) (n:Nat) (xs:List Value) (hs:a.eval s=v) (hown:w.ownsRow base e size v n xs)
  (ao:Option Addr) (m c:Nat) (news:List Value) (hx:a.eval x=.slice ao m c) (hl:news.length=m*size) (hnone:ao=none→m=0∧c=0) (hnews:∀ad,ao=some ad→∀j u,news[j]? =some u→w.cell? (ad.add j)=some u) (h1:∀u ∈ news,u.oneCell'=true)
  (h63:n+m≤maxLen) (hbytes:(n+m)*bytes≤140737488355328) (hbase:base≤w.heap.size)
  (h:∀v' w',w'.ownsRow base e size v' (n+m) (xs ++news)→w.grownBy w' v.ownBlock→(v'.ownBlock=v.ownBlock∨v'.ownBlock=some w.heap.size)→wpList P ops Q ah (a.put o.dst v') w') :
  wpList P ops Q (o :: ah) a w:=by
 cases ao with
 |some ad=>exact wpList_append_own_at w hgd s x t ho base e i z size bytes ht hi hz hsize hby hzs hsz v n xs hs hown ad m c news hx hl (hnews ad rfl) h1 h63 hbytes hbase fun v' w' a b _ c=>h v' w' a b c
 |none=>
  obtain⟨rfl,rfl⟩:=hnone rfl;have f:news=[]:=List.eq_nil_of_length_eq_zero (by simpa using hl);subst f;refine wpList_plain hgd fun K hK'=> ?_
  have d:=run_append_owned_none (P:=P) w base t o.type e i size ht hi v n xs hown;unfold Oper.wp;simp[execOp,ho,resolve,invoke,builtin,hs,hx,d,Result.andThen];exact hK' _ _ (by simpa using h v w (by simpa using hown) (World.grownBy.refl _ _) (Or.inl rfl))
theorem BQ(a b:Bs):Op.bytesLess a b=decide (a < b):=by
 induction a generalizing b with
 |nil=>cases b <;> simp[Op.bytesLess]
 |cons x a ih=>
  cases b with
  |nil=>simp[Op.bytesLess]
  |cons y b=>
   rw[Op.bytesLess,ih,Bool.eq_iff_iff];simp only[Bool.or_eq_true,decide_eq_true_eq,Bool.and_eq_true,beq_iff_eq];rw[List.cons_lt_cons_iff]
theorem jP{w:World}{B:Nat}{e:TypeId}{a:Option Addr}{n c:Nat}{xs:List Value}(h:w.ownsRow B e 1 (.slice a n c) n xs):n≤c:=by
 obtain⟨_,⟨b,i⟩ | ⟨g,d,f,b,_,_,j,_⟩⟩:=h
 ·injection b;omega
 ·injection b;omega
theorem uT{α:Type}(p:α→Bool):∀(l:List α) (n:Nat) (j:α),n≤(l.takeWhile p).length→l[n]? =some j→(p j=true→n+1≤(l.takeWhile p).length)∧(p j=false→n=(l.takeWhile p).length)
 | [],n,j,_,h=>by cases h
 |a :: l,n,j,hn,h=>by
  cases n with
  |zero=>
   simp at h;subst h;refine⟨fun hp=>by simp[hp],fun hp=>by simp[hp]⟩
  |succ n=>
   by_cases b:p a=true
   ·simp only[List.takeWhile_cons,b,if_true,List.length_cons]at hn ⊢
    have:=uT p l n j (by omega) (by simpa using h);exact⟨fun hp=>by have:=this.1 hp;omega,fun hp=>by have:=this.2 hp;omega⟩
   ·simp[b]at hn
theorem BK:(prog.info? 3).map (fun i=>(i.zero,i.size,i.bytes))=some (some (.int .i64 0),1,8):=by kernel_rfl
def ixV(j:Nat):Value:=.int .i64 (j:Int)
theorem iU(w:World)(ks:List Bs)(B:Nat)(K:Value)(hK:w.ownsRow B 9 1 K ks.length (ks.map fun k=>.string ⟨k.toArray⟩))(hl:ks.length≤1000000000):
  Calls prog 72 #[K] w fun e w'=>∃v,e=.returned v∧Kp (fun _=>False) w w'∧w'.ownsRow w.heap.size 3 1 v ks.length ((bQ ks ks.length).map ixV):=by
 obtain⟨i0,X,C,D,E⟩:=info_parts BK
 cases ks with
 |nil=>
  obtain⟨a,c,rfl⟩:=aE hK;go_enter func72,ntmps72;go_wp2_with fail
  go_loopg [3,4] 1 (fun g a b wr=>g=1∧a=.slice none 0 0∧b=.int .i64 0∧wr=w)
  case atStart=>exact⟨rfl,rfl,rfl,rfl⟩
  case round=>
   obtain⟨rfl,rfl,rfl,rfl⟩:=hrel;go_wp2;go_ret;exact⟨_,rfl,Kp.refl _ _,World.ownsRow_nil _ _ _ _⟩
 |cons k0 ks0=>
  obtain⟨kb,az,rfl⟩:=aK (n:=ks0.length) (by simpa using hK);generalize hmm:k0 :: ks0=ks at *;have ap:ks0.length+1=ks.length:=by rw[←hmm];rfl
  rw[ap]at hK ⊢;have av:=(hK.lt kb rfl).2;have ay:0 < ks.length:=by omega
  clear hmm ap;have CK:=ae (aL hK);clear hK;go_enter func72,ntmps72;go_wp2_with fail
  go_loopg [3,4] ks.length (fun g a b wr=>∃(i:Nat),g=ks.length - i∧i≤ks.length∧b=.int .i64 (i:Int)∧Kp (fun _=>False) w wr∧wr.ownsRow w.heap.size 3 1 a i ((bQ ks i).map ixV))
  case atStart=>exact⟨0,rfl,by omega,rfl,Kp.refl _ _,World.ownsRow_nil _ _ _ _⟩
  case round=>
   obtain⟨i,hg,aC,rfl,Z,t⟩:=hrel;have HG:=ae hg;clear hg;obtain⟨la,lc,rfl⟩:=aE t;by_cases P:i < ks.length
   ·have aq:(i:Int) < (ks.length:Int):=by omega
    have ai:∀j,j < ks.length→wr.cell? ⟨kb,j,none⟩=some (.string ⟨(ks.getD j []).toArray⟩):=by
     intro j hj;rw[Z.cell (p:=⟨kb,j,none⟩) av (by simp)];refine CK.o j _ ?_;rw[List.getElem?_map,List.getElem?_eq_getElem hj,List.getD,List.getElem?_eq_getElem hj];rfl
    have ah:=ae ai;clear ai;have aw:=gM ks i;have an:=nr ks i;generalize hII:bQ ks i=I at *;have ab:=ae hII;clear hII;go_wp2_with fail
    go_loopg [5] i (fun F c2 w2=>∃(at':Nat),F=i - at'∧at'≤(I.takeWhile (fun j=>decide (ks.getD j [] < ks.getD i []))).length∧c2=.int .i64 (at':Int)∧∃m,wr.drewN m=w2)
    case atStart=>exact⟨0,rfl,by omega,rfl,0,rfl⟩
    case round=>
     obtain⟨at',am,af,rfl,m,rfl⟩:=hrel;have H2:=ae am;clear am;have ar:=(List.takeWhile_sublist (fun j=>decide (ks.getD j [] < ks.getD i [])) (l:=I)).length_le;by_cases aB:at' < i
     ·obtain⟨gl,rfl⟩:∃gl,la=some ⟨gl,0,none⟩:=by
       obtain⟨i',rfl⟩:∃i',i=i'+1:=⟨i - 1,by omega⟩;obtain⟨g9,c9,e9⟩:=aK t;injection e9 with e1 e2 e3
       exact⟨g9,e1⟩
      have L:=jP t;have al:=aL t;obtain⟨j,hj⟩:∃j,I[at']? =some j:=⟨I[at'],List.getElem?_eq_getElem (by omega)⟩;have aD:=an j (List.mem_of_getElem? hj);have c1:=al at' (ixV j) (by rw[List.getElem?_map,hj];rfl);have c2:=ah.o j (by omega);have c3:=ah.o i P;unfold ixV at c1;have d1:decide ((at':Int) < (i:Int))=true:=by simp;omega
      have d2:(j:Int) < (ks.length:Int):=by omega
      have tm:=uT (fun j=>decide (ks.getD j [] < ks.getD i [])) I at' j af hj;obtain⟨kj,hkj⟩:∃kj,kj=ks.getD j []:=⟨_,rfl⟩;obtain⟨ki,hki⟩:∃ki,ki=ks.getD i []:=⟨_,rfl⟩;rw[←hkj]at c2;rw[←hki]at c3;have ao:decide (ks.getD j [] < ks.getD i [])=Op.bytesLess kj ki:=by rw[BQ,hkj,hki]
      have TM:=ae (An tm ao);have RW:=ae t;clear al hj t tm ao hkj hki
      cases hcmp:Op.bytesLess kj ki with
      |true=>
       go_wp2;go_quiet (fail)
       go_wp2;go_roundg (i - (at'+1))
       case measure=>rw[H2.o];omega
       case rel=>exact⟨at'+1,rfl,TM.o.1.1 (TM.o.2.trans hcmp),ak (by omega),_,rfl⟩
      |false=>
       have aa:Hid (at'=(I.takeWhile (fun j=>decide (ks.getD j [] < ks.getD i []))).length):=TM.o.1.2 (TM.o.2.trans hcmp);clear TM af ar;go_wp2;go_quiet (fail)
       clear c1 c2 c3 d1 d2 hcmp;have aj:¬lc=at':=by omega
       have z:bQ ks (i+1)=I.take at' ++i :: I.drop at':=by
        have q1:=pJ (fun j=>decide (ks.getD j [] < ks.getD i [])) I;have q2:=pI (fun j=>decide (ks.getD j [] < ks.getD i [])) I;rw[←aa.o]at q1 q2;rw[bQ,ab.o,jd,←q1,←q2]
       have S:=ae z;clear z;have f:(wr.drewN (m+nq)).ownsRow w.heap.size 3 1 (.slice (some ⟨gl,0,none⟩) i lc) i (I.map ixV):=RW.o;have L:=jP f;have G:w.heap.size≤wr.heap.size:=Z.size;have K2:Kp (fun _=>False) w (wr.drewN (m+nq)):=Z.drewN _;have y:=World.ownsRow_nil (wr.drewN (m+nq)) w.heap.size 3 1;go_wp2_with (at_builtin;(refine aQ _ rfl _ _ 130 rfl w.heap.size 3 i0 (.int .i64 0) 1 8 underlying130 X C D E rfl (by decide) _ _ _ rfl y (some ⟨gl,0,none⟩) at' lc ((I.take at').map ixV) rfl ?a1 ?a2 ?a3 ?a4 ?a5 ?a6 ?a7 ?_))
       case a1=>simp;omega
       case a2=>intro e;cases e
       case a3=>intro ad s j u d;injection s with s;subst s;rw[Addr.add_lit,Nat.zero_add];refine aL f j u ?_;rw[List.map_take]at d;exact (List.getElem?_take_of_lt (by rcases Nat.lt_or_ge j at' with q | q;exact q;rw[List.getElem?_eq_none (by simp;omega)]at d;cases d)).symm.trans d
       case a4=>intro u d;obtain⟨_,_,rfl⟩:=List.mem_map.1 d;rfl
       case a5=>unfold maxLen;omega
       case a6=>omega
       case a7=>exact G
       intro v1 w3 V T H
       obtain⟨va,vc,rfl⟩:∃va vc,v1=.slice va at' vc:=by
        obtain⟨a,c,e⟩:=aE V;exact⟨a,c,by first | (rw[e];done) | (rw[e];simp)⟩
       have ac:wr.heap.size≤w3.heap.size:=T.size;go_wp2_with (at_builtin;refine wpList_append_own_at _ rfl _ _ 130 rfl w.heap.size 3 i0 (.int .i64 0) 1 8 underlying130 X C D E rfl (by decide) _ _ _ rfl (V.alloc _) ⟨w3.heap.size,0,none⟩ 1 1 [ixV i] rfl rfl ?b1 ?b2 ?b3 ?b4 ?b5 ?_)
       case b1=>exact cell_one_new _ _ _
       case b2=>intro u d;simp at d;subst d;rfl
       case b3=>unfold maxLen;omega
       case b4=>omega
       case b5=>simp;omega
       intro v2 R M F _ o2
       obtain⟨vb,vd,rfl⟩:∃vb vd,v2=.slice vb (at'+1) vd:=by
        obtain⟨a,c,e⟩:=aE M;exact⟨a,c,by first | (rw[e];done) | (rw[e];simp)⟩
       have A:=F.size;simp at A;have W:gl < wr.heap.size:=(f.lt gl rfl).2
       have Q:some gl≠(Value.slice va at' vc).ownBlock:=by
        rcases H with H | H
        ·rw[H];simp[Value.ownBlock]
        ·rw[H];simp;omega
       have N:w3.heap[gl]? =(wr.drewN (m+nq)).heap[gl]? :=T.block gl W (by simp[Value.ownBlock]);have O:R.heap[gl]? =(wr.drewN (m+nq)).heap[gl]? :=(F.block gl (by simp;omega) Q).trans ((Below.heap_alloc _ _ _ (by omega)).trans N)
       have r:∀j u,(I.map ixV)[j]? =some u→R.cell? ⟨gl,j,none⟩=some u:=by
        intro j u d;rw[World.cell?_of_block (a:=⟨gl,j,none⟩) O];exact aL f j u d
       have x:∀j u,((I.drop at').map ixV)[j]? =some u→R.cell? ⟨gl,at'+j,none⟩=some u:=by
        intro j u d;refine r (at'+j) u ?_;rw[List.map_drop,List.getElem?_drop]at d;exact d
       have N4:=ae x;clear r x N O Q;go_wp2_with (at_builtin;(refine aQ _ rfl _ _ 130 rfl w.heap.size 3 i0 (.int .i64 0) 1 8 underlying130 X C D E rfl (by decide) _ _ _ rfl M (some ⟨gl,at',none⟩) (i - at') (lc - at') ((I.drop at').map ixV) rfl ?e1 (by intro e;cases e) (by intro ad s j u d;injection s with s;subst s;rw[Addr.add_lit];exact N4.o j u d) ?e4 ?e5 ?e6 ?e7 ?_))
       case e1=>simp;omega
       case e4=>intro u d;obtain⟨_,_,rfl⟩:=List.mem_map.1 d;rfl
       case e5=>unfold maxLen;omega
       case e6=>omega
       case e7=>omega
       intro v3 Y J g3 o3
       obtain⟨vx,vy,rfl⟩:∃vx vy,v3=.slice vx (i+1) vy:=by
        obtain⟨a,c,e⟩:=aE J;exact⟨a,c,by first | (rw[e];done) | (rw[e];congr 1;omega)⟩
       have K5:Kp (fun _=>False) w Y:=by
        have k3:Kp (fun _=>False) w w3:=K2.grown T (fun k hk _=>by cases hk);have k4:Kp (fun _=>False) w R:=(k3.alloc _).grown F (fun k hk P=>by have:=(V.lt k hk).1;omega);exact k4.grown g3 (fun k hk P=>by have:=(M.lt k hk).1;omega)
       have R3:Hid (Y.ownsRow w.heap.size 3 1 (.slice vx (i+1) vy) (i+1) ((bQ ks (i+1)).map ixV)):=by
        rw[S.o];have e1:at'+1+(i - at')=i+1:=by omega
        rw[List.map_append,List.map_cons,List.map_take,List.map_drop];try simp only[Nat.zero_add,List.nil_append,List.append_assoc,List.singleton_append,List.cons_append,List.map_take,List.map_drop]at J
        rw[e1]at J;exact J
       clear V M J T F g3 H o2 o3 y f;go_wp2;go_roundg (ks.length - (i+1))
       case measure=>rw[HG.o];omega
       case rel=>exact⟨i+1,rfl,by omega,ak (by omega),K5,R3.o⟩
     ·have U:at'=i:=by omega
      have aa:Hid (at'=(I.takeWhile (fun j=>decide (ks.getD j [] < ks.getD i []))).length):=by show _=_;omega
      have RW:=ae t;have L:=jP t;have d1:decide ((at':Int) < (i:Int))=false:=by simp;omega
      have ag:=t.2;clear af ar t;rcases ag with⟨e1,e2⟩ | ⟨gl,cc,aA,e1,_⟩
      ·injection e1 with e3 e4 e5
       subst e3;subst e2 e5;have e6:at'=0:=U;subst e6;clear e4 U;go_wp2;go_quiet (fail)
       clear d1;have hI:I=[]:=List.eq_nil_of_length_eq_zero aw;have z:bQ ks 1=[0]:=by rw[bQ,ab.o,hI];rfl
       have S:=ae z;have G:w.heap.size≤wr.heap.size:=Z.size;have K2:Kp (fun _=>False) w (wr.drewN (m+nq)):=Z.drewN _;have y:=World.ownsRow_nil (wr.drewN (m+nq)) w.heap.size 3 1;have HI:=ae hI;clear hI z;go_wp2_with (at_builtin;refine wpList_append_own_at _ rfl _ _ 130 rfl w.heap.size 3 i0 (.int .i64 0) 1 8 underlying130 X C D E rfl (by decide) _ _ _ rfl (y.alloc _) ⟨(wr.drewN (m+nq)).heap.size,0,none⟩ 1 1 [ixV 0] rfl rfl ?b1 ?b2 ?b3 ?b4 ?b5 ?_)
       case b1=>exact cell_one_new _ _ _
       case b2=>intro u d;simp at d;subst d;rfl
       case b3=>unfold maxLen;omega
       case b4=>omega
       case b5=>simp;omega
       intro v2 R M F _ o2
       obtain⟨vb,vd,rfl⟩:∃vb vd,v2=.slice vb 1 vd:=by
        obtain⟨a,c,e⟩:=aE M;exact⟨a,c,by rw[e]⟩
       have A:=F.size;simp at A;go_wp2_with (at_builtin;refine aQ _ rfl _ _ 130 rfl w.heap.size 3 i0 (.int .i64 0) 1 8 underlying130 X C D E rfl (by decide) _ _ _ rfl M none 0 0 [] rfl rfl (fun _=>⟨rfl,rfl⟩) (fun _ h=>by cases h) (fun _ h=>by cases h) ?e5 ?e6 ?e7 ?_)
       case e5=>unfold maxLen;omega
       case e6=>omega
       case e7=>omega
       intro v3 Y J g3 o3
       obtain⟨vx,vy,rfl⟩:∃vx vy,v3=.slice vx 1 vy:=by
        obtain⟨a,c,e⟩:=aE J;exact⟨a,c,by rw[e]⟩
       have K5:Kp (fun _=>False) w Y:=by
        have k4:Kp (fun _=>False) w R:=(K2.alloc _).grown F (fun k hk _=>by cases hk);exact k4.grown g3 (fun k hk P=>by have:=(M.lt k hk).1;omega)
       have R3:Hid (Y.ownsRow w.heap.size 3 1 (.slice vx 1 vy) 1 ((bQ ks 1).map ixV)):=by
        rw[S.o];exact J
       clear M J F g3 o2 o3 y;go_wp2;go_roundg (ks.length - 1)
       case measure=>rw[HG.o];omega
       case rel=>exact⟨1,rfl,by omega,rfl,K5,R3.o⟩
      ·injection e1 with e3 e4 e5
       subst e3;have hh:=ae (An e5 U);clear e4 e5 U;go_wp2;go_quiet (fail)
       clear d1;have ax:at'≤lc:=by have:=hh.o;omega
       by_cases aj:lc=at'
       ·have au:at'=i:=by have:=hh.o;omega
        clear hh;subst au;subst aj
        have z:bQ ks (lc+1)=I.take lc ++lc :: I.drop lc:=by
         have q1:=pJ (fun j=>decide (ks.getD j [] < ks.getD lc [])) I;have q2:=pI (fun j=>decide (ks.getD j [] < ks.getD lc [])) I;rw[←aa.o]at q1 q2;rw[bQ,ab.o,jd,←q1,←q2]
        have S:=ae z;clear z;have f:(wr.drewN (m+nq)).ownsRow w.heap.size 3 1 (.slice (some ⟨gl,0,none⟩) lc lc) lc (I.map ixV):=RW.o;have L:=jP f;have G:w.heap.size≤wr.heap.size:=Z.size;have K2:Kp (fun _=>False) w (wr.drewN (m+nq)):=Z.drewN _;have y:=World.ownsRow_nil (wr.drewN (m+nq)) w.heap.size 3 1;go_wp2_with (at_builtin;(refine aQ _ rfl _ _ 130 rfl w.heap.size 3 i0 (.int .i64 0) 1 8 underlying130 X C D E rfl (by decide) _ _ _ rfl y (some ⟨gl,0,none⟩) lc lc ((I.take lc).map ixV) rfl ?a1 ?a2 ?a3 ?a4 ?a5 ?a6 ?a7 ?_))
        case a1=>simp;omega
        case a2=>intro e;cases e
        case a3=>intro ad s j u d;injection s with s;subst s;rw[Addr.add_lit,Nat.zero_add];refine aL f j u ?_;rw[List.map_take]at d;exact (List.getElem?_take_of_lt (by rcases Nat.lt_or_ge j lc with q | q;exact q;rw[List.getElem?_eq_none (by simp;omega)]at d;cases d)).symm.trans d
        case a4=>intro u d;obtain⟨_,_,rfl⟩:=List.mem_map.1 d;rfl
        case a5=>unfold maxLen;omega
        case a6=>omega
        case a7=>exact G
        intro v1 w3 V T H
        obtain⟨va,vc,rfl⟩:∃va vc,v1=.slice va lc vc:=by
         obtain⟨a,c,e⟩:=aE V;exact⟨a,c,by first | (rw[e];done) | (rw[e];simp)⟩
        have ac:wr.heap.size≤w3.heap.size:=T.size;go_wp2_with (at_builtin;refine wpList_append_own_at _ rfl _ _ 130 rfl w.heap.size 3 i0 (.int .i64 0) 1 8 underlying130 X C D E rfl (by decide) _ _ _ rfl (V.alloc _) ⟨w3.heap.size,0,none⟩ 1 1 [ixV lc] rfl rfl ?b1 ?b2 ?b3 ?b4 ?b5 ?_)
        case b1=>exact cell_one_new _ _ _
        case b2=>intro u d;simp at d;subst d;rfl
        case b3=>unfold maxLen;omega
        case b4=>omega
        case b5=>simp;omega
        intro v2 R M F _ o2
        obtain⟨vb,vd,rfl⟩:∃vb vd,v2=.slice vb (lc+1) vd:=by
         obtain⟨a,c,e⟩:=aE M;exact⟨a,c,by first | (rw[e];done) | (rw[e];simp)⟩
        have A:=F.size;simp at A;have W:gl < wr.heap.size:=(f.lt gl rfl).2
        have Q:some gl≠(Value.slice va lc vc).ownBlock:=by
         rcases H with H | H
         ·rw[H];simp[Value.ownBlock]
         ·rw[H];simp;omega
        have N:w3.heap[gl]? =(wr.drewN (m+nq)).heap[gl]? :=T.block gl W (by simp[Value.ownBlock]);have O:R.heap[gl]? =(wr.drewN (m+nq)).heap[gl]? :=(F.block gl (by simp;omega) Q).trans ((Below.heap_alloc _ _ _ (by omega)).trans N)
        have r:∀j u,(I.map ixV)[j]? =some u→R.cell? ⟨gl,j,none⟩=some u:=by
         intro j u d;rw[World.cell?_of_block (a:=⟨gl,j,none⟩) O];exact aL f j u d
        have x:∀j u,((I.drop lc).map ixV)[j]? =some u→R.cell? ⟨gl,lc+j,none⟩=some u:=by
         intro j u d;refine r (lc+j) u ?_;rw[List.map_drop,List.getElem?_drop]at d;exact d
        have N4:=ae x;clear r x N O Q;go_wp2_with (at_builtin;(refine aQ _ rfl _ _ 130 rfl w.heap.size 3 i0 (.int .i64 0) 1 8 underlying130 X C D E rfl (by decide) _ _ _ rfl M (some ⟨gl,0,none⟩) 0 0 ((I.drop lc).map ixV) rfl ?e1 (by intro e;cases e) (by intro ad s j u d;rw[List.getElem?_eq_none (by simp;omega)]at d;cases d) ?e4 ?e5 ?e6 ?e7 ?_))
        case e1=>simp;omega
        case e4=>intro u d;obtain⟨_,_,rfl⟩:=List.mem_map.1 d;rfl
        case e5=>unfold maxLen;omega
        case e6=>omega
        case e7=>omega
        intro v3 Y J g3 o3
        obtain⟨vx,vy,rfl⟩:∃vx vy,v3=.slice vx (lc+1) vy:=by
         obtain⟨a,c,e⟩:=aE J;exact⟨a,c,by first | (rw[e];done) | (rw[e];congr 1;omega)⟩
        have K5:Kp (fun _=>False) w Y:=by
         have k3:Kp (fun _=>False) w w3:=K2.grown T (fun k hk _=>by cases hk);have k4:Kp (fun _=>False) w R:=(k3.alloc _).grown F (fun k hk P=>by have:=(V.lt k hk).1;omega);exact k4.grown g3 (fun k hk P=>by have:=(M.lt k hk).1;omega)
        have R3:Hid (Y.ownsRow w.heap.size 3 1 (.slice vx (lc+1) vy) (lc+1) ((bQ ks (lc+1)).map ixV)):=by
         rw[S.o];rw[List.map_append,List.map_cons,List.map_take,List.map_drop];try simp only[Nat.zero_add,List.nil_append,List.append_assoc,List.singleton_append,List.cons_append,List.map_take,List.map_drop]at J
         exact J
        clear V M J T F g3 H o2 o3 y f;go_wp2;go_roundg (ks.length - (lc+1))
        case measure=>rw[HG.o];omega
        case rel=>exact⟨lc+1,rfl,by omega,ak (by omega),K5,R3.o⟩
       ·have q1:i≤at':=by have:=hh.o;omega
        have q2:at'≤i:=by have:=hh.o;omega
        have z:bQ ks (i+1)=I.take at' ++i :: I.drop at':=by
         have q1:=pJ (fun j=>decide (ks.getD j [] < ks.getD i [])) I;have q2:=pI (fun j=>decide (ks.getD j [] < ks.getD i [])) I;rw[←aa.o]at q1 q2;rw[bQ,ab.o,jd,←q1,←q2]
        have S:=ae z;clear z;have f:(wr.drewN (m+nq)).ownsRow w.heap.size 3 1 (.slice (some ⟨gl,0,none⟩) i lc) i (I.map ixV):=RW.o;have L:=jP f;have G:w.heap.size≤wr.heap.size:=Z.size;have K2:Kp (fun _=>False) w (wr.drewN (m+nq)):=Z.drewN _;have y:=World.ownsRow_nil (wr.drewN (m+nq)) w.heap.size 3 1;go_wp2_with (at_builtin;(refine aQ _ rfl _ _ 130 rfl w.heap.size 3 i0 (.int .i64 0) 1 8 underlying130 X C D E rfl (by decide) _ _ _ rfl y (some ⟨gl,0,none⟩) at' lc ((I.take at').map ixV) rfl ?a1 ?a2 ?a3 ?a4 ?a5 ?a6 ?a7 ?_))
        case a1=>simp;omega
        case a2=>intro e;cases e
        case a3=>intro ad s j u d;injection s with s;subst s;rw[Addr.add_lit,Nat.zero_add];refine aL f j u ?_;rw[List.map_take]at d;exact (List.getElem?_take_of_lt (by rcases Nat.lt_or_ge j at' with q | q;exact q;rw[List.getElem?_eq_none (by simp;omega)]at d;cases d)).symm.trans d
        case a4=>intro u d;obtain⟨_,_,rfl⟩:=List.mem_map.1 d;rfl
        case a5=>unfold maxLen;omega
        case a6=>omega
        case a7=>exact G
        intro v1 w3 V T H
        obtain⟨va,vc,rfl⟩:∃va vc,v1=.slice va at' vc:=by
         obtain⟨a,c,e⟩:=aE V;exact⟨a,c,by first | (rw[e];done) | (rw[e];simp)⟩
        have ac:wr.heap.size≤w3.heap.size:=T.size;go_wp2_with (at_builtin;refine wpList_append_own_at _ rfl _ _ 130 rfl w.heap.size 3 i0 (.int .i64 0) 1 8 underlying130 X C D E rfl (by decide) _ _ _ rfl (V.alloc _) ⟨w3.heap.size,0,none⟩ 1 1 [ixV i] rfl rfl ?b1 ?b2 ?b3 ?b4 ?b5 ?_)
        case b1=>exact cell_one_new _ _ _
        case b2=>intro u d;simp at d;subst d;rfl
        case b3=>unfold maxLen;omega
        case b4=>omega
        case b5=>simp;omega
        intro v2 R M F _ o2
        obtain⟨vb,vd,rfl⟩:∃vb vd,v2=.slice vb (at'+1) vd:=by
         obtain⟨a,c,e⟩:=aE M;exact⟨a,c,by first | (rw[e];done) | (rw[e];simp)⟩
        have A:=F.size;simp at A;have W:gl < wr.heap.size:=(f.lt gl rfl).2
        have Q:some gl≠(Value.slice va at' vc).ownBlock:=by
         rcases H with H | H
         ·rw[H];simp[Value.ownBlock]
         ·rw[H];simp;omega
        have N:w3.heap[gl]? =(wr.drewN (m+nq)).heap[gl]? :=T.block gl W (by simp[Value.ownBlock]);have O:R.heap[gl]? =(wr.drewN (m+nq)).heap[gl]? :=(F.block gl (by simp;omega) Q).trans ((Below.heap_alloc _ _ _ (by omega)).trans N)
        have r:∀j u,(I.map ixV)[j]? =some u→R.cell? ⟨gl,j,none⟩=some u:=by
         intro j u d;rw[World.cell?_of_block (a:=⟨gl,j,none⟩) O];exact aL f j u d
        have x:∀j u,((I.drop at').map ixV)[j]? =some u→R.cell? ⟨gl,at'+j,none⟩=some u:=by
         intro j u d;refine r (at'+j) u ?_;rw[List.map_drop,List.getElem?_drop]at d;exact d
        have N4:=ae x;clear r x N O Q;go_wp2_with (at_builtin;(refine aQ _ rfl _ _ 130 rfl w.heap.size 3 i0 (.int .i64 0) 1 8 underlying130 X C D E rfl (by decide) _ _ _ rfl M (some ⟨gl,at',none⟩) 0 (lc - at') ((I.drop at').map ixV) rfl ?e1 (by intro e;cases e) (by intro ad s j u d;injection s with s;subst s;rw[Addr.add_lit];exact N4.o j u d) ?e4 ?e5 ?e6 ?e7 ?_))
        case e1=>simp;omega
        case e4=>intro u d;obtain⟨_,_,rfl⟩:=List.mem_map.1 d;rfl
        case e5=>unfold maxLen;omega
        case e6=>omega
        case e7=>omega
        intro v3 Y J g3 o3
        obtain⟨vx,vy,rfl⟩:∃vx vy,v3=.slice vx (i+1) vy:=by
         obtain⟨a,c,e⟩:=aE J;exact⟨a,c,by first | (rw[e];done) | (rw[e];congr 1;omega)⟩
        have K5:Kp (fun _=>False) w Y:=by
         have k3:Kp (fun _=>False) w w3:=K2.grown T (fun k hk _=>by cases hk);have k4:Kp (fun _=>False) w R:=(k3.alloc _).grown F (fun k hk P=>by have:=(V.lt k hk).1;omega);exact k4.grown g3 (fun k hk P=>by have:=(M.lt k hk).1;omega)
        have R3:Hid (Y.ownsRow w.heap.size 3 1 (.slice vx (i+1) vy) (i+1) ((bQ ks (i+1)).map ixV)):=by
         rw[S.o];have e1:at'+1=i+1:=by omega
         rw[List.map_append,List.map_cons,List.map_take,List.map_drop];try simp only[Nat.zero_add,List.nil_append,List.append_assoc,List.singleton_append,List.cons_append,List.map_take,List.map_drop]at J
         rw[e1]at J;exact J
        clear V M J T F g3 H o2 o3 y f;go_wp2;go_roundg (ks.length - (i+1))
        case measure=>rw[HG.o];omega
        case rel=>exact⟨i+1,rfl,by omega,ak (by omega),K5,R3.o⟩
   ·have aq:¬(i:Int) < (ks.length:Int):=by omega
    have:i=ks.length:=by omega
    subst this;go_wp2;go_ret;exact⟨_,rfl,Z,t⟩
def oT(w:World)(j:J)(b:Nat):Prop:=(cJ j).length≤1000000000→∀w',Kp (fun _=>False) w w' →
 Calls prog 38 #[.pointer (some ⟨b,0,none⟩)] w' fun e w''=>e=.returned (.string ⟨(cJ j).toArray⟩)∧Kp (fun _=>False) w' w''
theorem vkp{w w':World}{b kind:Nat}{n:Int}{t:Bs}{K L:Value}(h:w.heap[b]? =some (ar kind n t K L))(hk:Kp (fun _=>False) w w'):w'.heap[b]? =some (ar kind n t K L):=(hk.block b (ag h) (by simp)).trans h
theorem oq(l:List Bs)(n:Nat)(x:Bs)(h:l[n]? =some x):aB (l.take (n+1))=if n=0 then x else aB (l.take n) ++44 :: x:=by
 obtain⟨a,c⟩:=List.getElem?_eq_some_iff.1 h;rw[List.take_succ_eq_append_getElem a,c,j6];by_cases b:n=0
 ·subst b;simp
 ·have:l.take n≠[]:=by
   intro e;have:=congrArg List.length e;rw[List.length_take,List.length_nil]at this;omega
  rw[if_neg this,if_neg b]
theorem eT(l:List Bs):∀n,(aB (l.take n)).length≤(aB l).length∧∀x ∈ l,x.length≤(aB l).length:=by
 intro n;constructor
 ·induction l generalizing n with
  |nil=>simp
  |cons a l ih=>
   cases n with
   |zero=>simp[aB]
   |succ n=>
    cases l with
    |nil=>simp[aB]
    |cons b l=>
     cases n with
     |zero=>simp[aB]
     |succ n=>
      have:=ih (n+1);simp only[List.take_succ_cons,aB,List.length_append,List.length_cons]at this ⊢;omega
 ·induction l with
  |nil=>intro x c;cases c
  |cons a l ih=>
   intro x c
   cases l with
   |nil=>
    simp at c;subst c;simp[aB]
   |cons b l=>
    rcases List.mem_cons.1 c with rfl | c
    ·simp[aB]
    ·have:=ih x c
     simp only[aB,List.length_append,List.length_cons]at this ⊢;omega
theorem gP{w:World}{b kind:Nat}{n:Int}{t:Bs}(h:w.heap[b]? =some (ar kind n t (.slice none 0 0) (.slice none 0 0)))(j:J)
  (i:(kind=110∧j=.null)∨(kind=116∧j=.bool true)∨(kind=102∧j=.bool false)∨(kind=35∧j=.num n∧n.natAbs≤9007199254740991)∨(kind=34∧j=.str t)):oT w j b:=by
 intro a w' k;have f:=vkp h k;obtain⟨v0,p,v2,v3,v4,z0,q,z2,z3,z4,o⟩:=aw f;rcases i with⟨rfl,rfl⟩ | ⟨rfl,rfl⟩ | ⟨rfl,rfl⟩ | ⟨rfl,rfl,l⟩ | ⟨rfl,rfl⟩
 ·go_enter func38,ntmps38
  go_wp2;go_ret;exact⟨rfl,Kp.refl _ _⟩
 ·go_enter func38,ntmps38
  go_wp2;go_ret;exact⟨rfl,Kp.refl _ _⟩
 ·go_enter func38,ntmps38
  go_wp2;go_ret;exact⟨rfl,Kp.refl _ _⟩
 ·go_enter func38,ntmps38
  go_wp2_with fail
  refine (xP _ n l).mono ?_;rintro e w1 ⟨rfl,g⟩;go_wp2;go_ret;exact⟨by rw[cJ];rfl,g⟩
 ·have d:t.length≤1000000000:=by
   rw[cJ,cU]at a
   have:t.length≤(t.flatMap cB).length:=by
    clear a h f v2
    induction t with
    |nil=>simp
    |cons c t ih=>
     have:1≤(cB c).length:=by
      unfold cB
      repeat' split
      all_goals simp
     simp only[List.flatMap_cons,List.length_append,List.length_cons];omega
   simp only[List.length_cons,List.length_append,List.length_nil]at a;omega
  go_enter func38,ntmps38;go_wp2_with fail
  refine (lQ _ ⟨t.toArray⟩ (by rw[aN];exact d)).mono ?_;rintro e w1 ⟨rfl,m,rfl⟩;go_wp2;go_ret;exact⟨by rw[cJ];rfl,(Kp.refl _ _).drewN _⟩
theorem B0{w:World}{B:Nat}{e:TypeId}{v:Value}{n:Nat}{xs:List Value}(h:w.ownsRow B e 1 v n xs):n≤9223372036854775807:=by
 obtain⟨_,⟨_,rfl⟩ | ⟨g,a,b,_,_,_,d,c,_⟩⟩:=h
 ·omega
 ·unfold maxLen at c;omega
theorem sJ(a:UInt8)(o:Bs)(c:UInt8):(⟨#[a]⟩:ByteArray) ++⟨o.toArray⟩ ++⟨#[c]⟩=⟨(a :: (o ++[c])).toArray⟩:=by
 apply ByteArray.ext;simp
theorem xY{w:World}{b:Nat}(x:List (J×Nat))(L:Value)(h:w.heap[b]? =some (ar 91 0 [] (.slice none 0 0) L))
  (hL:w.ownsRow 0 66 1 L x.length (x.map fun p=>ptr p.2)) (ih:∀j c,(j,c) ∈ x→oT w j c):oT w (.arr (x.map (·.1))) b:=by
 intro m w' Q;rw[nH,List.map_map]at m ⊢;generalize hM:x.map (cJ ∘ fun x=>x.1)=M at *;have t:M.length=x.length:=by rw[←hM];simp
 simp only[List.length_cons,List.length_append,List.length_nil]at m;have E:=vkp h Q;have d:=an hL Q (by simp);obtain⟨v0,G,v2,v3,v4,z0,H,z2,z3,z4,l⟩:=aw E
 cases x with
 |nil=>
  obtain⟨a,c,rfl⟩:=aE hL;have O:M=[]:=List.eq_nil_of_length_eq_zero t;subst O;clear hM t;go_enter func38,ntmps38;go_wp2_with fail
  refine (iU _ [] 0 (.slice none 0 0) (World.ownsRow_nil _ _ _ _) (by simp)).mono ?_;rintro e w1 ⟨v,rfl,D,F⟩;obtain⟨oa,oc,rfl⟩:=aE F;clear v0 G v2 v3 v4 z0 H z2 z3 z4 l;obtain⟨v0,G,v2,v3,v4,z0,H,z2,z3,z4,l⟩:=aw (vkp E D);go_wp2_with fail
  go_loopg [3,5] 1 (fun g a bb wr=>g=1∧a=.string ⟨#[]⟩∧bb=.int .i64 0∧wr=w1)
  case atStart=>exact⟨rfl,rfl,rfl,rfl⟩
  case round=>
   obtain⟨rfl,rfl,rfl,rfl⟩:=hrel;go_wp2;go_ret;exact⟨rfl,D⟩
 |cons x0 xs=>
  obtain⟨g,W,rfl⟩:=aK (n:=xs.length) (by simpa using d);generalize hxx:x0 :: xs=x at *;have y:xs.length+1=x.length:=by rw[←hxx];rfl
  rw[y]at v4 d E h;have P:=(d.lt g rfl).2;have aa:=B0 d;have q:∀i p,x[i]? =some p→p ∈ x:=fun i p hp=>List.mem_of_getElem? hp
  have B:=ae (An (aL d) (An hM (An q ih)));clear hxx y hL d hM q ih;go_enter func38,ntmps38;go_wp2_with fail
  refine (iU _ [] 0 (.slice none 0 0) (World.ownsRow_nil _ _ _ _) (by simp)).mono ?_;rintro e w1 ⟨v,rfl,D,F⟩;obtain⟨oa,oc,rfl⟩:=aE F;clear v0 G v2 v3 v4 z0 H z2 z3 z4 l F;go_wp2_with fail
  go_loopg [3,5] x.length (fun gg a bb wr=>∃i:Nat,gg=x.length - i∧i≤x.length∧bb=.int .i64 (i:Int)∧a=.string ⟨(aB (M.take i)).toArray⟩∧Kp (fun _=>False) w' wr)
  case atStart=>exact⟨0,rfl,by omega,rfl,rfl,D⟩
  case round=>
   obtain⟨i,V,hi,rfl,rfl,s⟩:=hrel;have U:=ae V;clear V;obtain⟨v0,G,v2,v3,v4,z0,H,z2,z3,z4,l⟩:=aw (vkp E s);have X:=(eT M i).1;have S:=aN (aB (M.take i));by_cases R:i < x.length
   ·have z:(i:Int) < (x.length:Int):=by omega
    obtain⟨p,hp⟩:∃p,x[i]? =some p:=⟨x[i],List.getElem?_eq_getElem R⟩
    have cl:wr.cell? ⟨g,i,none⟩=some (ptr p.2):=by
     rw[s.cell (p:=⟨g,i,none⟩) P (by simp)];exact B.o.1 i _ (by rw[List.getElem?_map,hp];rfl)
    unfold ptr at cl;have r:M[i]? =some (cJ p.1):=by rw[←B.o.2.1,List.getElem?_map,hp];rfl
    have Y:=(eT M i).2 _ (List.mem_of_getElem? r);have k:=oq M i _ r;have A:=B.o.2.2.1 i p hp;have f:=B.o.2.2.2 p.1 p.2 A (by omega) wr (Q.trans s);have Z:=aN (cJ p.1);have C:=ae (An f k);clear hp r A f k;by_cases K:i=0
    ·have N:¬(0:Int) < (i:Int):=by omega
     have T:=ae K;clear K;go_wp2_with fail
     refine C.o.1.mono ?_;rintro e w3 ⟨rfl,I⟩;go_wp2;go_roundg (x.length - (i+1))
     case measure=>rw[U.o];omega
     case rel=>
      refine⟨i+1,rfl,by omega,ak (by omega), ?_,s.trans I⟩;rw[C.o.2,if_pos T.o,bj,T.o];simp[aB]
    ·have N:(0:Int) < (i:Int):=by omega
     go_wp2_with fail
     refine C.o.1.mono ?_;rintro e w3 ⟨rfl,I⟩;go_wp2;go_roundg (x.length - (i+1))
     case measure=>rw[U.o];omega
     case rel=>
      refine⟨i+1,rfl,by omega,ak (by omega), ?_,s.trans I⟩;rw[C.o.2,if_neg K,bj,bj];simp
   ·have z:¬(i:Int) < (x.length:Int):=by omega
    have u:M.take i=M:=List.take_of_length_le (by omega);rw[u];rw[u]at S;go_wp2;go_ret;exact⟨by rw[sJ];rfl,s⟩
theorem jU(t:Bs):t.length≤(cU t).length:=by
 unfold cU
 have:t.length≤(t.flatMap cB).length:=by
  induction t with
  |nil=>simp
  |cons c t ih=>
   have:1≤(cB c).length:=by
    unfold cB
    repeat' split
    all_goals simp
   simp only[List.flatMap_cons,List.length_append,List.length_cons];omega
 simp only[List.length_cons,List.length_append,List.length_nil];omega
theorem je:∀l:List Bs,l.length≤(aB l).length+1
 | []=>by simp
 | [x]=>by simp
 |x :: y :: l=>by
  have:=je (y :: l);simp only[aB,List.length_append,List.length_cons]at this ⊢;omega
theorem mg(m:List (Bs×J))(h:Nod m):(ofL m).length=m.length:=by
 have:=congrArg List.length (jg m h m.length (Nat.le_refl _));rw[List.length_map,List.length_map,gM,List.take_length]at this;exact this.symm
theorem xZ{w:World}{b:Nat}(x:List (Bs×J×Nat))(K L:Value)(h:w.heap[b]? =some (ar 123 0 [] K L))
  (hK:w.ownsRow 0 9 1 K x.length (x.map fun p=>.string ⟨p.1.toArray⟩)) (hL:w.ownsRow 0 66 1 L x.length (x.map fun p=>ptr p.2.2))
  (hN:Nod (x.map fun p=>(p.1,p.2.1))) (ih:∀a j c,(a,j,c) ∈ x→oT w j c):oT w (.obj (ofL (x.map fun p=>(p.1,p.2.1)))) b:=by
 intro z w' W;rw[c7]at z ⊢;have F:((ofL (x.map fun p=>(p.1,p.2.1))).map aD).length=x.length:=by rw[List.length_map,mg _ hN,List.length_map]
 have D:=jg _ hN x.length (by simp);rw[List.take_of_length_le (by simp),List.map_map,show ((fun x=>x.1) ∘ fun p:Bs×J×Nat=>(p.1,p.2.1))=fun p=>p.1 from rfl]at D;simp only[List.length_cons,List.length_append,List.length_nil]at z;have ai:=je ((ofL (x.map fun p=>(p.1,p.2.1))).map aD)
 have E:∀(i:Nat) (d:Nat),(bQ (x.map fun p=>p.1) x.length)[i]? =some d→d < x.length∧∃p,x[d]? =some p∧((ofL (x.map fun p=>(p.1,p.2.1))).map aD)[i]? =some (aD (p.1,p.2.1)):=by
  intro i d hi;have t:d < x.length:=nr _ _ d (List.mem_of_getElem? hi);refine⟨t,x[d],List.getElem?_eq_getElem t, ?_⟩;have y:=congrArg (fun l=>l[i]?) D;simp only[List.getElem?_map,hi,Option.map_some]at y;rw[List.getElem?_eq_getElem t]at y;simp only[Option.map_some]at y;rw[List.getElem?_map]
  cases ho:(ofL (x.map fun p=>(p.1,p.2.1)))[i]? with
  |none=>rw[ho]at y;cases y
  |some q=>
   rw[ho]at y;simp only[Option.map_some,Option.some.injEq]at y;rw[←y];rfl
 generalize hM:(ofL (x.map fun p=>(p.1,p.2.1))).map aD=M at *;clear hM D;have U:=vkp h W;have f:=an hK W (by simp);have m:=an hL W (by simp);obtain⟨v0,Y,v2,v3,v4,z0,Z,z2,z3,z4,u⟩:=aw U
 cases x with
 |nil=>
  obtain⟨a,c,rfl⟩:=aE hL;obtain⟨a2,c2,rfl⟩:=aE hK;have ab:M=[]:=List.eq_nil_of_length_eq_zero F;subst ab;clear F E;go_enter func38,ntmps38;go_wp2_with fail
  refine (iU _ [] 0 _ f (by simp)).mono ?_;rintro e w1 ⟨v,rfl,S,B⟩;obtain⟨oa,oc,rfl⟩:=aE B;clear v0 Y v2 v3 v4 z0 Z z2 z3 z4 u;obtain⟨v0,Y,v2,v3,v4,z0,Z,z2,z3,z4,u⟩:=aw (vkp U S);go_wp2_with fail
  go_loopg [3,5] 1 (fun g a bb wr=>g=1∧a=.string ⟨#[]⟩∧bb=.int .i64 0∧wr=w1)
  case atStart=>exact⟨rfl,rfl,rfl,rfl⟩
  case round=>
   obtain⟨rfl,rfl,rfl,rfl⟩:=hrel;go_wp2;go_ret;exact⟨rfl,S⟩
 |cons x0 xs=>
  obtain⟨g,am,rfl⟩:=aK (n:=xs.length) (by simpa using m);obtain⟨X,O,rfl⟩:=aK (n:=xs.length) (by simpa using f);generalize hxx:x0 :: xs=x at *;have H:xs.length+1=x.length:=by rw[←hxx];rfl
  rw[H]at v3 v4 m f U h;have ad:=(m.lt g rfl).2;have ac:=(f.lt X rfl).2;have al:0 < x.length:=by omega
  have A:=iU w' (x.map fun p=>p.1) 0 (.slice (some ⟨X,0,none⟩) x.length O) (by simpa[List.map_map,Function.comp_def] using f) (by simp;omega);have P:=ae (An (aL m) (An (aL f) (An E ih)));have HO:=ae A;clear hxx H hL m hK f E ih A;go_enter func38,ntmps38;go_wp2_with fail
  refine HO.o.mono ?_;rintro e w1 ⟨v,rfl,S,B⟩;rw[List.length_map]at B
  obtain⟨og,ocap,rfl⟩:∃og oc,v=.slice (some ⟨og,0,none⟩) x.length oc:=by
   obtain⟨n',hn'⟩:∃n',x.length=n'+1:=⟨x.length - 1,by omega⟩;rw[hn']at B ⊢;exact aK B
  have af:=(B.lt og rfl).2;have CO:=ae (aL B);have hil:=gM (x.map fun p=>p.1) x.length;clear v0 Y v2 v3 v4 z0 Z z2 z3 z4 u B HO;go_wp2_with fail
  go_loopg [3,5] x.length (fun gg a bb wr=>∃i:Nat,gg=x.length - i∧i≤x.length∧bb=.int .i64 (i:Int)∧a=.string ⟨(aB (M.take i)).toArray⟩∧Kp (fun _=>False) w1 wr)
  case atStart=>exact⟨0,rfl,by omega,rfl,rfl,Kp.refl _ _⟩
  case round=>
   obtain⟨i,hg,hi,rfl,rfl,T⟩:=hrel;have HG:=ae hg;clear hg;have k:=S.trans T;obtain⟨v0,Y,v2,v3,v4,z0,Z,z2,z3,z4,u⟩:=aw (vkp U k);have ap:=(eT M i).1;have ag:=aN (aB (M.take i));by_cases t:i < x.length
   ·have I:(i:Int) < (x.length:Int):=by omega
    obtain⟨d,hkk⟩:∃d,(bQ (x.map fun p=>p.1) x.length)[i]? =some d:=⟨_,List.getElem?_eq_getElem (by omega)⟩;obtain⟨aq,p,hp,C⟩:=P.o.2.2.1 i d hkk
    have co:wr.cell? ⟨og,i,none⟩=some (.int .i64 (d:Int)):=by
     rw[T.cell (p:=⟨og,i,none⟩) af (by simp)];exact CO.o i _ (by rw[List.getElem?_map,hkk];rfl)
    have ck:wr.cell? ⟨X,d,none⟩=some (.string ⟨p.1.toArray⟩):=by
     rw[k.cell (p:=⟨X,d,none⟩) ac (by simp)];exact P.o.2.1 d _ (by rw[List.getElem?_map,hp];rfl)
    have cl:wr.cell? ⟨g,d,none⟩=some (.pointer (some ⟨p.2.2,0,none⟩)):=by
     rw[k.cell (p:=⟨g,d,none⟩) ad (by simp)];exact P.o.1 d _ (by rw[List.getElem?_map,hp];rfl)
    have ah:=(eT M i).2 _ (List.mem_of_getElem? C);have s:=oq M i _ C;simp only[aD,List.length_append,List.length_cons]at ah;have av:=jU p.1
    have r:∀n,Calls prog 38 #[.pointer (some ⟨p.2.2,0,none⟩)] (wr.drewN n) fun e w''=>e=.returned (.string ⟨(cJ p.2.1).toArray⟩)∧Kp (fun _=>False) (wr.drewN n) w'':=
     fun n=>P.o.2.2.2 p.1 p.2.1 p.2.2 (List.mem_of_getElem? hp) (by omega) (wr.drewN n) ((W.trans k).drewN n)
    have au:=aN (cJ p.2.1);have ao:=aN (cU p.1);have aj:(d:Int) < (x.length:Int):=by omega
    have R:=ae (An r s);clear hp C r s hkk;have N:=aN p.1;by_cases V:i=0
    ·have aa:¬(0:Int) < (i:Int):=by omega
     have Q:=ae V;clear V;go_wp2_with fail
     refine (lQ wr ⟨p.1.toArray⟩ (by rw[N];omega)).mono ?_;rintro e w3 ⟨rfl,n,rfl⟩;go_wp2_with fail
     refine (R.o.1 n).mono ?_;rintro e w4 ⟨rfl,K4⟩;go_wp2;go_roundg (x.length - (i+1))
     case measure=>rw[HG.o];omega
     case rel=>
      refine⟨i+1,rfl,by omega,ak (by omega), ?_,(T.drewN n).trans K4⟩;rw[R.o.2,if_pos Q.o,bj,bj,bj,Q.o];simp[aB,aD]
    ·have aa:(0:Int) < (i:Int):=by omega
     have Q:=ae V;clear V;go_wp2_with fail
     refine (lQ wr ⟨p.1.toArray⟩ (by rw[N];omega)).mono ?_;rintro e w3 ⟨rfl,n,rfl⟩;go_wp2_with fail
     refine (R.o.1 n).mono ?_;rintro e w4 ⟨rfl,K4⟩;go_wp2;go_roundg (x.length - (i+1))
     case measure=>rw[HG.o];omega
     case rel=>
      refine⟨i+1,rfl,by omega,ak (by omega), ?_,(T.drewN n).trans K4⟩;rw[R.o.2,if_neg Q.o,bj,bj,bj,bj];simp[aD]
   ·have I:¬(i:Int) < (x.length:Int):=by omega
    have G:M.take i=M:=List.take_of_length_le (by omega);rw[G];rw[G]at ag;go_wp2;go_ret;exact⟨by rw[sJ];rfl,k⟩
theorem xX{w:World}{F:Nat→Prop}{j:J}{b:Nat}(h:RR w F j b):oT w j b:=by
 induction h with
 |null hF h=>exact gP h _ (Or.inl ⟨rfl,rfl⟩)
 |tt hF h=>exact gP h _ (Or.inr (Or.inl ⟨rfl,rfl⟩))
 |ff hF h=>exact gP h _ (Or.inr (Or.inr (Or.inl ⟨rfl,rfl⟩)))
 |num n hn hF h=>exact gP h _ (Or.inr (Or.inr (Or.inr (Or.inl ⟨rfl,rfl,hn⟩))))
 |str t hF h=>exact gP h _ (Or.inr (Or.inr (Or.inr (Or.inr ⟨rfl,rfl⟩))))
 |arr x L hF h hL hG hx ih=>exact xY x L h hL ih
 |obj x K L hF h hK hL hG hH hN hx ih=>exact xZ x K L h hK hL hN ih
end
section
open Go Go.RowKit
theorem ue{s:ByteArray}{a b:Nat}(h:b≤s.size):(s.extract a b).data.toList.length=b - a:=by
 rw[Lib.extract_data];simp;omega
theorem ti{l:Bs}(h:dgs l=[]):l.dropWhile aW=l:=by
 have:=List.takeWhile_append_dropWhile (p:=aW) (l:=l);unfold dgs at h;rw[h]at this;simpa using this
theorem qU{s:ByteArray}{a b:Nat}(h:a < b)(hb:b≤s.size):∃t,(s.extract a b).data.toList=nxt (ah s a) :: t∧t.length+1=b - a:=by
 have e:=gR (s:=s) (Nat.le_of_lt h);have d:=ue (a:=a) hb;generalize (s.extract a b).data.toList=D at *
 cases D with
 |nil=>simp at d;omega
 |cons c t=>
  refine⟨t, ?_,by simpa using d⟩;rw[e];rfl
theorem rC{m:Bool}{s:ByteArray}{k1 k':Nat}(hk:k1≤k')(hb:k'≤s.size)(hD:∀c ∈ (s.extract k1 k').data.toList,aW c=true)
  (d:bK < aO (s.extract k1 k').data.toList∨(k1+1 < k'∧nxt (ah s k1)=48)):eW m (ah s k1)=none:=by
 have e:=(ja (gR (s:=s) hk) hD).1;unfold eW;rw[if_neg];rintro⟨b,i⟩;rw[e]at b i;rcases d with h | ⟨h,g⟩
 ·have:=kD (s.extract k1 k').data.toList (dgs (ah s k'))
  omega
 ·obtain⟨t,k,j⟩:=qU (s:=s) (show k1 < k' by omega) hb
  rw[k,g]at b
  have f:(48 :: t) ++dgs (ah s k')≠[48]:=by
   cases t with
   |nil=>simp at j;omega
   |cons a t=>simp
  unfold fg at b;rw[if_neg (by simpa using f)]at b;simp at b
theorem us{m:Bool}{s:ByteArray}{k1 k':Nat}(hk:k1≤k')(hb:k'≤s.size)(hD:∀c ∈ (s.extract k1 k').data.toList,aW c=true)(hstop:dgs (ah s k')=[])
  (hn:aO (s.extract k1 k').data.toList≤bK) (e:k'≤k1+1∨nxt (ah s k1)≠48) :
  eW m (ah s k1)=if k'=k1∨(m=true∧aO (s.extract k1 k').data.toList=0) then none else some ((if m then -(aO (s.extract k1 k').data.toList:Int) else aO (s.extract k1 k').data.toList),ah s k'):=by
 obtain⟨i,j⟩:=ja (gR (s:=s) hk) hD;rw[hstop,List.append_nil]at i;rw[ti hstop]at j;unfold eW;rw[i,j];rcases Nat.eq_or_lt_of_le hk with rfl | f
 ·have k:(s.extract k1 k1).data.toList=[]:=by rw[Lib.extract_data];simp
  rw[k,if_pos (Or.inl rfl),if_neg];rintro⟨h,_⟩;simp[fg]at h
 ·obtain⟨t,n,o⟩:=qU (s:=s) f hb
  have g:whole (s.extract k1 k').data.toList=true:=by
   rw[n];unfold whole;rcases e with e | e
   ·have:t=[]:=List.eq_nil_of_length_eq_zero (by omega)
    subst this;by_cases h:nxt (ah s k1)=48 <;> simp[h]
   ·simp[e]
  have hp:=qc hD g;generalize (s.extract k1 k').data.toList=D at *
  cases m with
  |false=>
   have a:¬(k'=k1∨(false=true∧aO D=0)):=by
    rintro (h | ⟨h,_⟩)
    ·omega
    ·cases h
   rw[lW,g,if_pos ⟨rfl,hn⟩,if_neg a]
  |true=>
   rw[mM,g];by_cases d:aO D=0
   ·have l:k'=k1∨(true=true∧aO D=0):=Or.inr ⟨rfl,d⟩
    rw[if_pos l,if_neg];rintro⟨h,_⟩;simp[hp.1 d]at h
   ·have a:¬(k'=k1∨(true=true∧aO D=0)):=by
     rintro (h | ⟨_,h⟩)
     ·omega
     ·exact d h
    have b:(true && !(D == [48]))=true∧aO D≤bK:=⟨by simp[mt hp.2 d],hn⟩;rw[if_neg a,if_pos b]
end
end Go.Proofs.YtocligpfmfmihaaGreatDoor
