import Derived.Test.YtocligpfmfmihaaGreatDoorVa4G
set_option maxHeartbeats 4000000
set_option maxRecDepth 20000
namespace Go.Proofs.YtocligpfmfmihaaGreatDoor
open Go.Proofs.Tryz
section
open Go Go.RowKit Go.Maps Go.WideMaps Go.MuLone
attribute [local go_sem] Oper.semAt_some
theorem Dp:(prog.info? 160).map (fun i=>(i.zero,i.size,i.bytes))=some (some (.agg #[.string ⟨#[]⟩,.string ⟨#[]⟩,.string ⟨#[]⟩,.bool false]),4,56):=by kernel_rfl
theorem Aw{α:Type}{f:α→List Value}(hf:∀x,(f x).length=4):∀l:List α,(l.flatMap f).length=l.length*4
 | []=>rfl
 |x :: l=>by rw[List.flatMap_cons,List.length_append,hf,Aw hf l,List.length_cons];omega
theorem q8{α:Type}{f:α→List Value}(hf:∀x,(f x).length=4):∀(l:List α) (j:Nat) (u:Value),(l.flatMap f)[j]? =some u→∃x,l[j / 4]? =some x∧(f x)[j % 4]? =some u
 | [],j,u,h=>by cases h
 |x :: l,j,u,h=>by
  rw[List.flatMap_cons]at h;by_cases a:j < 4
  ·rw[List.getElem?_append_left (by rw[hf];exact a)]at h
   rw[Nat.div_eq_of_lt a,Nat.mod_eq_of_lt a];exact⟨x,rfl,h⟩
  ·rw[List.getElem?_append_right (by rw[hf];omega),hf]at h
   obtain⟨y,d,e⟩:=q8 hf l (j - 4) u h;have b:j / 4=(j - 4) / 4+1:=by omega
   have c:j % 4=(j - 4) % 4:=by omega
   rw[b,c];exact⟨y,d,e⟩
theorem D9{w:World}{rs:List Rpl}{ra:Option Addr}(h:RpI w rs ra){ad:Addr}(ha:ra=some ad){j:Nat}{u:Value}(hu:(rs.flatMap rpC)[j]? =some u):w.cell? (ad.add j)=some u:=by
 obtain⟨r,a,b⟩:=q8 (f:=rpC) (fun _=>rfl) rs j u hu;obtain⟨g,o,e,c⟩:=h _ r a;rw[ha]at e;injection e with e
 subst e;have:=c _ u b;rw[Addr.add_lit];rwa[Nat.add_assoc,show j / 4*4+j % 4=j by omega]at this
theorem yp{P:Program}{c:Code}{Q:Exit→Act→World→Prop}{a:Act}{w:World}(A:Nat→Act)(C:Nat→World→Prop)(h:Code.wp P c (noP fun ex a' w'=>ex=.normal∧∃n,a'=A n∧C n w') a w)(hq:∀n X,C n X→Q .normal (A n) X):Code.wp P c Q a w:=
 lX (Code.wp_mono (fun e _ _ h=>by
   cases e <;> first
     |exact h.elim
     | (obtain⟨d,n,rfl,b⟩:=h;exact hq _ _ b)
     |exact absurd h.1 (by intro h;cases h)) h)
theorem il{A:Nat→Act}{a':Act}{X:World}{C:Nat→World→Prop}(n:Nat)(ha:a'=A n)(h:C n X):noP (fun ex a' w'=>ex=.normal∧∃n,a'=A n∧C n w') .normal a' X:=⟨rfl,n,ha,h⟩
def VC(w1:World)(Fn:Nat→Prop)(nb:Nat)(nm id ky:Bs)(xs:List Bs)(st':Ldg)(c:Nat)(oc:Nat×Bs)(n:Nat)(X:World):Prop:=
 ∃F':Nat→Prop,Kp Fn w1 X∧(∀k,F' k→Fn k∨w1.heap.size≤k)∧PN X F' nb nm id ky xs st' c∧¬F' n∧w1.heap.size≤n∧X.heap[n]? =some (.cells #[.int .i64 (oc.1:Int),.string ⟨oc.2.toArray⟩] 52)
theorem PN.lt{w:World}{F:Nat→Prop}{nb:Nat}{nm id ky:Bs}{xs:List Bs}{st:Ldg}{c:Nat}(h:PN w F nb nm id ky xs st c):∀k,F k→k < w.heap.size:=by
 obtain⟨_,_,_,h⟩:=h;exact h.lt
theorem wtk{P:Program}{md:Region.Mode}{ops:Array Oper}{Q:Exit→Act→World→Prop}{S:World→Prop}(i:Nat){oi:Oper}{v:Value}{fuel:Nat}{listed:Array Bool}{a:Act}{w:World}(hi:ops[i]? =some oi)(h:wpAnyH P md ops Q S fuel (listed.setIfInBounds i true) (a.put oi.dst v) w)(hw:Region.wanted oi (yielded ops a.tmps)=true:=by rfl)(hy:∀w,S w→(execOp a.eval oi).run P w=.ok (.value v) w:=by (intro w u;(try dsimp only at u);go_simp;all_goals with_reducible rfl))(hs:Region.noSelect ops=true:=by kernel_rfl)(hf:Region.free md ops listed i=true:=by kernel_rfl)(hr:(Region.ready md ops listed).contains i=true:=by kernel_rfl)(hQ:∀c a w,Q (.panic c) (a.put oi.dst v) w→Q (.panic c) a w:=by exact fun _ _ _ h=>h)(hS:S w:=by assumption):wpAnyH P md ops Q S (fuel+1) listed a w:=wpAnyH_take hi hs hf hr hQ (Or.inl ⟨hw,hy⟩) hS h
theorem EN{P:Program}{md:Region.Mode}{ops:Array Oper}{Q:Exit→Act→World→Prop}{S:World→Prop}(i:Nat){fuel:Nat}{listed:Array Bool}{a:Act}{w:World}(h:AllReadyH P md ops Q S fuel listed a w [i])(hr:Region.ready md ops listed=[i]:=by kernel_rfl):wpAnyH P md ops Q S (fuel+1) listed a w:=wpAnyH_ready hr (by simp) h
theorem Kp.celF{w X:World}{F:Nat→Prop}(h:Kp F w X){b o:Nat}{u:Value}(hn:¬F b)(hu:w.cell? ⟨b,o,none⟩=some u):X.cell? ⟨b,o,none⟩=some u:=
 (h.cell (p:=⟨b,o,none⟩) (World.block_lt_of_cell? w _ hu) hn).trans hu
theorem EQ{w1 w2:World}{Fn:Nat→Prop}{nb:Nat}{nm id ky:Bs}{xs:List Bs}{st':Ldg}{c:Nat}(h:PnR w1 Fn nb nm id ky xs st' c w2):Kp Fn w1 w2:=by
 obtain⟨_,K,_⟩:=h;exact K
theorem EO{w X:World}{F:Nat→Prop}(h:Kp F w X){x y:Value}:Kp F w ((X.setCell ⟨w.heap.size,0,none⟩ x).setCell ⟨w.heap.size,1,none⟩ y):=
 Kp.setCell (p:=⟨w.heap.size,1,none⟩) (Kp.setCell (p:=⟨w.heap.size,0,none⟩) h (fun e=>absurd e (Nat.lt_irrefl _)) _) (fun e=>absurd e (Nat.lt_irrefl _)) _
theorem Am{w1 w2:World}{Fn:Nat→Prop}{nb:Nat}{nm id ky:Bs}{xs:List Bs}{st':Ldg}{c:Nat}{oc:Nat×Bs}(h:PnR w1.drew Fn nb nm id ky xs st' c w2):VC w1 Fn nb nm id ky xs st' c oc w2.heap.size (w2.alloc (.cells #[.int .i64 (oc.1:Int),.string ⟨oc.2.toArray⟩] 52)):=by
 obtain⟨b,K,d,a⟩:=h;refine⟨b,((Kp.refl _ w1).drew.trans K).alloc _,d,a.frame (by simp) (fun k hf=>Below.heap_alloc _ _ _ (a.lt k hf)),fun hf=>Nat.lt_irrefl _ (a.lt _ hf),K.size,heap_alloc_new _ _⟩
theorem yl{w1 w2:World}{Fn:Nat→Prop}{nb:Nat}{nm id ky:Bs}{xs:List Bs}{st':Ldg}{c:Nat}{oc:Nat×Bs}{x y:Value}(hFn:∀k,Fn k→k < w1.heap.size)(h:PnR (w1.alloc (.cells #[x,y] 52)).drew Fn nb nm id ky xs st' c w2):VC w1 Fn nb nm id ky xs st' c oc w1.heap.size ((w2.setCell ⟨w1.heap.size,0,none⟩ (.int .i64 (oc.1:Int))).setCell ⟨w1.heap.size,1,none⟩ (.string ⟨oc.2.toArray⟩)):=by
 obtain⟨f,K,g,j⟩:=h;have d:(w1.alloc (.cells #[x,y] 52)).drew.heap.size=w1.heap.size+1:=World.size_alloc _ _;have l:w2.heap[w1.heap.size]? =some (.cells #[x,y] 52):=(K.block _ (by rw[d];omega) (fun a=>Nat.lt_irrefl _ (hFn _ a))).trans (heap_alloc_new w1 _)
 have b:∀k,f k→k≠w1.heap.size:=by
  rintro k a rfl;rcases g _ a with h | h
  ·exact Nat.lt_irrefl _ (hFn _ h)
  ·rw[d]at h;omega
 have i:Kp Fn w1 w2:=((Kp.refl Fn w1).alloc _).drew.trans K;refine⟨f,Kp.setCell (p:=⟨w1.heap.size,1,none⟩) (Kp.setCell (p:=⟨w1.heap.size,0,none⟩) i (fun e=>absurd e (Nat.lt_irrefl _)) _) (fun e=>absurd e (Nat.lt_irrefl _)) _,fun k a=>(g k a).imp (fun h=>h) (fun h=>by rw[d]at h;omega),j.frame (by rw[World.size_setCell,World.size_setCell];exact Nat.le_refl _) (fun k h=> ?_),fun a=>b _ a rfl,Nat.le_refl _,bO l⟩;rw[af (by exact b k h),af (by exact b k h)]
theorem DS{w1 w2:World}{Fn:Nat→Prop}{nb:Nat}{nm id ky:Bs}{xs:List Bs}{st':Ldg}{c:Nat}{x y:Value}(hFn:∀k,Fn k→k < w1.heap.size)(h:PnR (w1.alloc (.cells #[x,y] 52)).drew Fn nb nm id ky xs st' c w2):w2.heap[w1.heap.size]? =some (.cells #[x,y] 52):=by
 obtain⟨a,K,b,d⟩:=h;exact (K.block _ (by show _ < (w1.alloc _).heap.size;rw[World.size_alloc];exact Nat.lt_succ_self _) (fun hf=>Nat.lt_irrefl _ (hFn _ hf))).trans (heap_alloc_new w1 _)
theorem xC{w:World}{B g n c sz:Nat}{e:TypeId}{xs:List Value}(h:w.ownsRow B e sz (.slice (some ⟨g,0,none⟩) n c) n xs)(j:Nat)(u:Value)(hu:xs[j]? =some u):w.cell? ⟨g,j,none⟩=some u:=by
 have:=h.cells (g:=g) rfl j u hu;rwa[Addr.add_lit,Nat.zero_add]at this
def RC(w1:World)(Fr:Nat→Prop)(rb:Nat)(nm id ky:Bs)(so:Value)(st':Ldg)(c:Nat)(oc:Nat×Bs)(n:Nat)(X:World):Prop:=
 RnR w1 Fr rb nm id ky so st' c X∧X.heap[n]? =some (.cells #[.int .i64 (oc.1:Int),.string ⟨oc.2.toArray⟩] 52)
theorem EP{w1 w2:World}{Fr:Nat→Prop}{rb:Nat}{nm id ky:Bs}{so:Value}{st':Ldg}{c:Nat}(h:RnR w1 Fr rb nm id ky so st' c w2):Kp Fr w1 w2:=by
 obtain⟨_,K,_⟩:=h;exact K
theorem zU{w1 w2:World}{Fr:Nat→Prop}{rb:Nat}{nm id ky:Bs}{so:Value}{st':Ldg}{c:Nat}{oc:Nat×Bs}(h:RnR w1.drew Fr rb nm id ky so st' c w2):RC w1 Fr rb nm id ky so st' c oc w2.heap.size (w2.alloc (.cells #[.int .i64 (oc.1:Int),.string ⟨oc.2.toArray⟩] 52)):=by
 obtain⟨b,K,d,a,e⟩:=h;exact⟨⟨b,((Kp.refl _ w1).drew.trans K).alloc _,d,fun k hf=>by have:=a k hf;simp;omega,e.frame (fun k hf=>Below.heap_alloc _ _ _ (a k hf))⟩,heap_alloc_new _ _⟩
theorem xM{w1 w2:World}{Fr:Nat→Prop}{rb:Nat}{nm id ky:Bs}{so:Value}{st':Ldg}{c:Nat}{oc:Nat×Bs}{x y:Value}(hFr:∀k,Fr k→k < w1.heap.size)(h:RnR (w1.alloc (.cells #[x,y] 52)).drew Fr rb nm id ky so st' c w2):RC w1 Fr rb nm id ky so st' c oc w1.heap.size ((w2.setCell ⟨w1.heap.size,0,none⟩ (.int .i64 (oc.1:Int))).setCell ⟨w1.heap.size,1,none⟩ (.string ⟨oc.2.toArray⟩)):=by
 obtain⟨f,K,g,j,l⟩:=h;have d:(w1.alloc (.cells #[x,y] 52)).drew.heap.size=w1.heap.size+1:=World.size_alloc _ _;have m:w2.heap[w1.heap.size]? =some (.cells #[x,y] 52):=(K.block _ (by rw[d];omega) (fun a=>Nat.lt_irrefl _ (hFr _ a))).trans (heap_alloc_new w1 _)
 have b:∀k,f k→k≠w1.heap.size:=by
  rintro k a rfl;rcases g _ a with h | h
  ·exact Nat.lt_irrefl _ (hFr _ h)
  ·rw[d]at h;omega
 have i:Kp Fr w1 w2:=((Kp.refl Fr w1).alloc _).drew.trans K;refine⟨⟨f,Kp.setCell (p:=⟨w1.heap.size,1,none⟩) (Kp.setCell (p:=⟨w1.heap.size,0,none⟩) i (fun e=>absurd e (Nat.lt_irrefl _)) _) (fun e=>absurd e (Nat.lt_irrefl _)) _,fun k a=>(g k a).imp (fun h=>h) (fun h=>by rw[d]at h;omega),fun k a=>by rw[World.size_setCell,World.size_setCell];exact j k a,l.frame (fun k h=> ?_)⟩,bO m⟩;rw[af (by exact b k h),af (by exact b k h)]
theorem DE{w1 w2:World}{Fr:Nat→Prop}{rb:Nat}{nm id ky:Bs}{so:Value}{st':Ldg}{c:Nat}{x y:Value}(hFr:∀k,Fr k→k < w1.heap.size)(h:RnR (w1.alloc (.cells #[x,y] 52)).drew Fr rb nm id ky so st' c w2):w2.heap[w1.heap.size]? =some (.cells #[x,y] 52):=by
 obtain⟨a,K,b,d⟩:=h;exact (K.block _ (by show _ < (w1.alloc _).heap.size;rw[World.size_alloc];exact Nat.lt_succ_self _) (fun hf=>Nat.lt_irrefl _ (hFr _ hf))).trans (heap_alloc_new w1 _)
theorem zO{w w1 w2 w3 wr:World}{Fn:Nat→Prop}{nb:Nat}{nm id ky:Bs}{xs:List Bs}{st':Ldg}{c:Nat}{oc:Nat×Bs}{n:Nat}{v:Value}(hFw:∀k,Fn k→k < w.heap.size)(hlb:∀k,v.ownBlock=some k→w.heap.size+1≤k∧k < w1.heap.size)(K1:Kp (fun _=>False) w w1)(h:VC w1 Fn nb nm id ky xs st' c oc n w2)(K3:Kp (fun _=>False) w2 w3)(Kr:Kp (fun k=>v.ownBlock=some k) w3 wr):PnR w Fn nb nm id ky xs st' c wr∧wr.heap[n]? =some (.cells #[.int .i64 (oc.1:Int),.string ⟨oc.2.toArray⟩] 52)∧w1.heap.size≤n:=by
 obtain⟨l,K,g,j,p,m,o⟩:=h;have d:Kp Fn w w3:=((K1.mono (fun _ _ h=>h.elim)).trans K).trans (K3.mono (fun _ _ h=>h.elim));have f:=K3.heap o;refine⟨⟨l,d.and Kr (fun i hi e=>by have:=hlb i e;omega),fun k b=>(g k b).imp (fun h=>h) (fun h=>Nat.le_trans K1.size h),j.frame (Nat.le_trans K3.size Kr.size) (fun k b=> ?_)⟩,fU f Kr (fun e=>by have:=hlb n e;omega),m⟩;have a:=j.lt k b;refine (Kr.block k (Nat.lt_of_lt_of_le a K3.size) (fun e=> ?_)).trans (K3.block k a (by simp));have:=hlb k e;rcases g k b with h | h
 ·have:=hFw k h
  omega
 ·omega
theorem CR(W:World)(hN:NG3 W)(hG:GL W)(w:World)(hW:Below W.heap.size W w)(F:Nat→Prop)(hFl:∀k,F k→W.heap.size≤k)(pb:Nat)(nm id ky:Bs)(xs:List Bs)(va:Option Addr)(vc:Nat)(hsrc:SrI W xs va)(hxl:xs.length≤1100000000)(st:Ldg)(T:List Bs)(hT:LOk T st)(hTl:T.length≤700000)(hP:PR w F pb nm id ky xs (.slice va xs.length vc) st (aR T))
  (two:Bool) (s t:Bs) (now:Int) (rs:List Rpl) (ra:Option Addr) (rc:Nat) (li:Value) (hli:∃x y z,li=.slice x y z) (hI:RpI W rs ra) (hra:ra=none→rs.length=0∧rc=0) (hrl:rs.length≤1100000000) (hrT:∀r ∈ rs,r.text ∈ T) (hsT:s ∈ T) (hn0 : -9223372036854775808≤now) (hn1:now≤9223372036854775807) :
  Calls prog 51 #[.pointer (some ⟨pb,0,none⟩),opV 4 two s t now (.slice ra rs.length rc) li] w fun e w'=>e=.returned (.bool true)∧PrS w F pb nm id ky xs (.slice va xs.length vc) (bS rs now xs st s).2 (aR T) w':=by
 have HP:=ae hP;obtain⟨v,I,M,N,hp,hn,hr,h4,h5,h6,h7⟩:=hP;have b:=ae (An hp (An hn (An hr (An h4 (An h5 (An h6 h7))))));obtain⟨lx,ly,lz,rfl⟩:=hli;have c0:w.cell? ⟨pb,0,none⟩=some (.pointer (some ⟨M,0,none⟩)):=by simp[World.cell?,hp]
 have c1:w.cell? ⟨pb,1,none⟩=some (.pointer (some ⟨N,0,none⟩)):=by simp[World.cell?,hp]
 have aW:=ag hp;have HF:=ae hFl;clear hp hn hr h4 h5 h6 h7 hFl;unfold opV;have K0:Kp (fun _=>False) w (w.alloc (.cells #[.int .i64 4,.bool two,.string ⟨s.toArray⟩,.string ⟨t.toArray⟩,.int .i64 now,.slice ra rs.length rc,.slice lx ly lz] 93)):=(Kp.refl _ _).alloc _;have I0:=heap_alloc_new w (.cells #[.int .i64 4,.bool two,.string ⟨s.toArray⟩,.string ⟨t.toArray⟩,.int .i64 now,.slice ra rs.length rc,.slice lx ly lz] 93);have d:=ae (An K0 I0);clear K0 I0;obtain⟨i0,hi,aN,aO,aP⟩:=info_parts Dp;have ah:(rs.flatMap rpC).length=rs.length*4:=Aw (f:=rpC) (fun _=>rfl) rs;have V:∀ad,ra=some ad→∀j u,(rs.flatMap rpC)[j]? =some u→((w.alloc (.cells #[.int .i64 4,.bool two,.string ⟨s.toArray⟩,.string ⟨t.toArray⟩,.int .i64 now,.slice ra rs.length rc,.slice lx ly lz] 93)).alloc (.cells #[] 160)).cell? (ad.add j)=some u:=fun ad h j u hu=>(d.o.1.alloc _).cel (Below.cl hW (D9 hI h hu))
 have Y:∀u ∈ (rs.flatMap rpC),u.oneCell'=true:=by
  intro u hu;obtain⟨r,_,hr⟩:=List.mem_flatMap.1 hu;simp only[rpC,List.mem_cons,List.not_mem_nil,or_false]at hr;rcases hr with rfl | rfl | rfl | rfl <;> rfl
 have r0:=World.ownsRow_lit (base:=w.heap.size+1) (e:=160) (size:=4) (w.alloc (.cells #[.int .i64 4,.bool two,.string ⟨s.toArray⟩,.string ⟨t.toArray⟩,.int .i64 now,.slice ra rs.length rc,.slice lx ly lz] 93)) #[] 0 (by rw[World.size_alloc];exact Nat.le_refl _) (Nat.zero_le _) rfl;rw[World.size_alloc]at r0;have HA:=ae (An V (An Y (An r0 hra)));clear V Y r0 hra;go_enter func51,ntmps51;go_wp2_with (at_builtin;(refine aQ _ rfl _ _ 91 rfl (w.heap.size+1) 160 i0 (.agg #[.string ⟨#[]⟩,.string ⟨#[]⟩,.string ⟨#[]⟩,.bool false]) 4 56 underlying91 hi aN aO aP rfl (by decide) _ _ _ rfl HA.o.2.2.1 ra rs.length rc (rs.flatMap rpC) rfl ah HA.o.2.2.2 HA.o.1 HA.o.2.1 (by unfold maxLen;omega) (by omega) (by simp) ?_))
 intro v1 w1 y1 y2 y3;have Ko:Kp (fun _=>False) (w.alloc (.cells #[.int .i64 4,.bool two,.string ⟨s.toArray⟩,.string ⟨t.toArray⟩,.int .i64 now,.slice ra rs.length rc,.slice lx ly lz] 93)) w1:=((Kp.refl _ (w.alloc (.cells #[.int .i64 4,.bool two,.string ⟨s.toArray⟩,.string ⟨t.toArray⟩,.int .i64 now,.slice ra rs.length rc,.slice lx ly lz] 93))).alloc _).gr y2 (fun r e=>by have:=Option.some.inj (show some (w.heap.size+1)=some r from e);rw[World.size_alloc];omega);have y4:w1.ownsRow (w.heap.size+1) 160 4 v1 rs.length (rs.flatMap rpC):=by simpa using y1
 obtain⟨L,lc,rfl,aU,aA⟩:=aY y4;have b0:=(d.o.1.trans Ko).cel c0;have b1:=(d.o.1.trans Ko).cel c1;obtain⟨o2,o3,o4⟩:=iL (Ko.heap d.o.2);have o5:w1.cell? ⟨w.heap.size,5,none⟩=some (.slice ra rs.length rc):=by simp[World.cell?,Ko.heap d.o.2]
 have B:=Ko.heap d.o.2;have c:=ae (An (d.o.1.trans Ko) (An y4 (An aA B)));clear y1 y2 y3 Ko y4 aA B HA c0 c1 d
 have aa:Hid (∀X,Kp (fun _=>False) w1 X→Calls prog 31 #[.pointer (some ⟨M,0,none⟩),.string ⟨s.toArray⟩,.int .i64 now,.slice L rs.length lc] X fun e w'=>VyR X v M nm id ky xs T (bS rs now xs st s) e w'):=fun X hX=>by
  have E:∀k,(Value.slice L rs.length lc).ownBlock=some k→¬v k∧k < X.heap.size:=fun k e=>⟨fun hf=>by
   have h1:=(c.o.2.1.lt k e).1;have h2:=b.o.2.2.2.2.2.2 k (b.o.2.2.2.1 k hf).1;omega,Nat.lt_of_lt_of_le (c.o.2.1.lt k e).2 hX.size⟩
  refine Ao W hN X (am hW (c.o.1.trans hX)) v (fun k h=>HF.o k (b.o.2.2.2.1 k h).1) M nm id ky xs st T hT hTl (b.o.2.1.frame (c.o.1.trans hX).size (fun k hf=>(c.o.1.trans hX).block k (b.o.2.2.2.2.2.2 k (b.o.2.2.2.1 k hf).1) (by simp))) hxl rs L lc (qo (an c.o.2.1 hX (by simp)) rfl) (fun h0 g o e=> ?_) hrl hrT s hsT now hn0 hn1 _ rfl;obtain⟨g',e',_⟩:=c.o.2.2.1 (List.length_pos_iff.2 h0);rw[e']at e;injection e with e
  injection e with e1 e2
  subst e1;exact E g' (by rw[e'];rfl)
 generalize hvs:bS rs now xs st s=vs at *;obtain⟨⟨oc,kn⟩,R⟩:=vs;have aj:=ae hvs;clear hvs;go_wp2_with fail
 have al:∀k,v k→k < w1.heap.size:=fun k hf=>Nat.lt_of_lt_of_le (b.o.2.2.2.2.2.2 k (b.o.2.2.2.1 k hf).1) c.o.1.size
 have J:Kp (fun _=>False) w1 (w1.alloc (.cells #[.int .i64 0,.string ⟨#[]⟩] 52)):=(Kp.refl _ w1).alloc _;have a0:=J.cel b0;have a2:=J.cel o2;have a4:=J.cel o4;clear J;have G:¬v pb:=fun h=>(b.o.2.2.2.1 pb h).2.2 rfl
 have l:¬v w.heap.size:=fun h=>Nat.lt_irrefl _ (b.o.2.2.2.2.2.2 _ (b.o.2.2.2.1 _ h).1)
 have a:Hid (∀X,Kp v w1 X→X.cell? ⟨pb,0,none⟩=some (.pointer (some ⟨M,0,none⟩))∧X.cell? ⟨w.heap.size,2,none⟩=some (.string ⟨s.toArray⟩)∧X.cell? ⟨w.heap.size,4,none⟩=some (.int .i64 now)):=by
  have k0:=b0;have k2:=o2;have k4:=o4;exact ae (fun X hX=>⟨hX.celF G k0,hX.celF l k2,hX.celF l k4⟩)
 clear G l a0 a2 a4;refine yp ?_ (VC w1 v M nm id ky xs R (aR T) oc) ?_ ?_;rotate_left
 ·refine wp_region_held_drew (S:=fun X=>X.cell? ⟨pb,0,none⟩=some (.pointer (some ⟨M,0,none⟩))∧X.cell? ⟨w.heap.size,2,none⟩=some (.string ⟨s.toArray⟩)∧X.cell? ⟨w.heap.size,4,none⟩=some (.int .i64 now)) (by kernel_rfl) (a.o _ (Kp.refl _ w1).drew) (fun hHeld=> ?_)
  refine wtk 0 rfl ?_;refine wtk 1 rfl ?_;refine wtk 2 rfl ?_;refine wtk 3 rfl ?_;refine wtk 4 rfl ?_;refine wtk 5 rfl ?_;refine wtk 6 rfl ?_;refine wtk 7 rfl ?_;refine wtk 8 rfl ?_;refine wpAnyH_ready (rs:=[9,13]) (by kernel_rfl) (by simp) (AllReadyH.cons rfl (fun K hK=> ?_) (AllReadyH.cons rfl (fun K hK=> ?_) AllReadyH.nil))
  ·refine aF rfl 31 _ _ rfl #[.pointer (some ⟨M,0,none⟩),.string ⟨s.toArray⟩,.int .i64 now,.slice L rs.length lc] (by go_simp) ?_
   refine (aa.o _ (Kp.refl _ w1).drew).mono ?_;rintro e w2 ⟨rfl,C⟩;unfold eK;have A:=(Kp.refl v w1).drew.trans (EQ C);refine hK.out _ _ (a.o _ A) (fun hHeld=> ?_);clear hK K;refine wtk 10 rfl ?_;refine wtk 11 rfl ?_;refine wtk 12 rfl ?_;refine EN 13 (.cons rfl (fun K hK=> ?_) .nil);go_simp
   refine hK.out _ _ (a.o _ (A.alloc _)) (fun hHeld=> ?_);clear hK K;refine EN 14 (.cons rfl (fun K hK=> ?_) .nil);go_simp
   refine hK.out _ _ (a.o _ (A.alloc _)) (fun hHeld=> ?_);clear hK K;refine wtk 15 rfl ?_;refine wpAnyH_done (by kernel_rfl) ?_ _;refine il w2.heap.size ?_ (Am C);generalize w2.heap.size=nn;rfl
  ·go_simp
   refine hK.out _ _ (a.o _ ((Kp.refl v w1).drew.alloc _)) (fun hHeld=> ?_);clear hK K;refine EN 9 (.cons rfl (fun K hK=> ?_) .nil);refine aF rfl 31 _ _ rfl #[.pointer (some ⟨M,0,none⟩),.string ⟨s.toArray⟩,.int .i64 now,.slice L rs.length lc] (by go_simp) ?_;refine (aa.o _ ((Kp.refl _ w1).drew.alloc _)).mono ?_;rintro e w2 ⟨rfl,C⟩;unfold eK;have A:=((Kp.refl v w1).drew.alloc _).trans (EQ C);have z0:=DS al C;obtain⟨⟨z3,z4⟩,z1,z2⟩:=aH z0;clear z0;refine hK.out _ _ (a.o _ A) (fun hHeld=> ?_);clear hK K;refine wtk 10 rfl ?_;refine wtk 11 rfl ?_;refine wtk 12 rfl ?_;refine EN 14 (.cons rfl (fun K hK=> ?_) .nil);go_simp
   refine hK.out _ _ (a.o _ (EO A)) (fun hHeld=> ?_);clear hK K;refine wtk 15 rfl ?_;refine wpAnyH_done (by kernel_rfl) ?_ _;refine il w1.heap.size ?_ (yl al C);generalize w1.heap.size=nn;rfl
 intro n w2 aD;clear aa a b0;have E:∀k,(Value.slice L rs.length lc).ownBlock=some k→w.heap.size+1≤k∧k < w1.heap.size:=fun k e=>c.o.2.1.lt k e
 have P:∀k,v k→k < w.heap.size:=fun k hf=>b.o.2.2.2.2.2.2 k (b.o.2.2.2.1 k hf).1
 have ap:=c.o.2.2.2;have HC:=ae aD;obtain⟨F2,K2,aG,aI,aJ,aC,aq⟩:=aD;have B:=fU ap K2 (fun hf=>Nat.lt_irrefl _ (P _ hf));have aS:w2.cell? ⟨w.heap.size,5,none⟩=some (.slice ra rs.length rc):=by simp[World.cell?,B]
 have H:=an c.o.2.1 K2 (fun k e hf=>by have:=E k e;have:=P k hf;omega);have ay:=mO (am hW c.o.1) K2 (fun k hf=>HF.o k (b.o.2.2.2.1 k hf).1)
 have U:RpI w2 rs ra:=fun j r hr=>by
  obtain⟨g,o,e,hm⟩:=hI j r hr;exact⟨g,o,e,fun m u hu=>Below.cl ay (hm m u hu)⟩
 have ai:=ae (qB w2 rs L ra lc rc (qo H rfl) U hrl);have H2:=ae (An E (An P (An B (An H aq))));clear E P ap B H ay U F2 K2 aG aI aJ aC aq b1 o2 o3 o4 o5;go_wp2_with fail
 refine ai.o.mono ?_;rintro e w3 ⟨rfl,K3⟩;have Z:=ae K3;clear K3 ai aS;go_wp2_with fail
 go_loopg [19] rs.length (fun gg q wx=>∃(i:Nat) (ys:List Value),gg=rs.length - i∧i≤rs.length∧q=.int .i64 (i:Int)∧wx.ownsRow (w.heap.size+1) 160 4 (.slice L rs.length lc) rs.length ys∧Kp (fun k=>(Value.slice L rs.length lc).ownBlock=some k) w3 wx)
 case atStart=>exact⟨0,_,rfl,by omega,rfl,an H2.o.2.2.2.1 Z.o (by simp),Kp.refl _ _⟩
 case round=>
  obtain⟨i,ys,af,aT,rfl,row,Kr⟩:=hrel;by_cases aV:i < rs.length
  ·have aB:(i:Int) < (rs.length:Int):=by omega
   obtain⟨g,rfl,_⟩:=c.o.2.2.1 (by omega);have f0:=row.frozenAt (i*4);have f1:=row.frozenAt (i*4+1);have f2:=row.frozenAt (i*4+2);have f3:=row.frozenAt (i*4+3);have aM:=row.1;have D:∀m,m < 4→∃u,wr.cell? ⟨g,i*4+m,none⟩=some u:=fun m hm=>⟨ys[i*4+m]'(by omega),xC row _ _ (List.getElem?_eq_getElem (by omega))⟩
   obtain⟨u0,x0⟩:=D 0 (by omega);obtain⟨u1,x1⟩:=D 1 (by omega);obtain⟨u2,x2⟩:=D 2 (by omega);obtain⟨u3,x3⟩:=D 3 (by omega);rw[Nat.add_zero]at x0;have HR:=ae (An af (An row Kr));clear af row Kr aM D;go_wp2;go_roundg (rs.length - (i+1))
   case measure=>rw[HR.o.1];omega
   case rel=>exact⟨i+1,_,rfl,by omega,ak (by omega),((((HR.o.2.1.stored (i*4) _).1.stored (i*4+1) _).1.stored (i*4+2) _).1.stored (i*4+3) _).1,Kp.setCell (p:=⟨g,i*4+3,none⟩) (Kp.setCell (p:=⟨g,i*4+2,none⟩) (Kp.setCell (p:=⟨g,i*4+1,none⟩) (Kp.setCell (p:=⟨g,i*4,none⟩) HR.o.2.2 (fun _=>rfl) _) (fun _=>rfl) _) (fun _=>rfl) _) (fun _=>rfl) _⟩
  ·have aB:¬(i:Int) < (rs.length:Int):=by omega
   obtain⟨aL,av,aK⟩:=zO H2.o.2.1 H2.o.1 c.o.1 HC.o Z.o Kr;have ac:=fU (Z.o.heap H2.o.2.2.1) Kr (fun e=>by have:=H2.o.1 _ e;omega);obtain⟨o2,o3,o4⟩:=iL ac;have o5:wr.cell? ⟨w.heap.size,5,none⟩=some (.slice ra rs.length rc):=by simp[World.cell?,ac]
   obtain⟨Fz,Kz,ao,aw⟩:=aL
   have b1:wr.cell? ⟨pb,1,none⟩=some (.pointer (some ⟨N,0,none⟩)):=by
    have:=fU b.o.1 Kz (fun hf=>(b.o.2.2.2.1 _ hf).2.2 rfl);simp[World.cell?,this]
   have az:=mO hW Kz (fun k hf=>HF.o k (b.o.2.2.2.1 k hf).1);have O:∀k,I k→k < wr.heap.size:=fun k hf=>Nat.lt_of_lt_of_le (b.o.2.2.2.2.2.2 k (b.o.2.2.2.2.1 k hf).1) Kz.size
   have ax:=b.o.2.2.1.frame (w':=wr) (fun k hf=>Kz.block k (b.o.2.2.2.2.2.2 k (b.o.2.2.2.2.1 k hf).1) (fun h=>(b.o.2.2.2.1 k h).2.1 hf))
   have ab:Hid (∀X,Kp (fun _=>False) wr X→Calls prog 89 #[.pointer (some ⟨N,0,none⟩),.string ⟨s.toArray⟩,.int .i64 now,.slice ra rs.length rc] X fun e w'=>e=.returned (.tuple #[eK oc,.int .i64 (kn:Int)])∧RnR X I N nm id ky (.slice va xs.length vc) R (aR T) w'):=fun X hX=>by
    have:=x6 W hG X (am az hX) I (fun k h=>HF.o k (b.o.2.2.2.2.1 k h).1) (fun k h=>Nat.lt_of_lt_of_le (O k h) hX.size) N nm id ky xs va vc hsrc hxl st T hT hTl (ax.frame (fun k hf=>hX.block k (O k hf) (by simp))) rs ra rc hI hrl hrT s hsT now hn0 hn1;rw[aj.o]at this;exact this
   have HZ:=ae (An (An Kr ⟨Fz,Kz,ao,aw⟩) (An av aK):(Kp (fun k=>(Value.slice L rs.length lc).ownBlock=some k) w3 wr∧PnR w v M nm id ky xs R (aR T) wr)∧(_∧_));have J:Kp (fun _=>False) wr (wr.alloc (.cells #[.int .i64 0,.string ⟨#[]⟩] 52)):=(Kp.refl _ wr).alloc _;have a1:=J.cel b1;have a2:=J.cel o2;have a4:=J.cel o4;have a5:=J.cel o5;clear J Fz Kz ao aw av ac az ax row Kr af;go_wp2_with fail
   have G:¬I pb:=fun h=>(b.o.2.2.2.2.1 pb h).2 rfl
   have l:¬I w.heap.size:=fun h=>Nat.lt_irrefl _ (b.o.2.2.2.2.2.2 _ (b.o.2.2.2.2.1 _ h).1)
   have a:Hid (∀X,Kp I wr X→X.cell? ⟨pb,1,none⟩=some (.pointer (some ⟨N,0,none⟩))∧X.cell? ⟨w.heap.size,2,none⟩=some (.string ⟨s.toArray⟩)∧X.cell? ⟨w.heap.size,4,none⟩=some (.int .i64 now)∧X.cell? ⟨w.heap.size,5,none⟩=some (.slice ra rs.length rc)):=by
    have k1:=b1;have k2:=o2;have k4:=o4;have k5:=o5;exact ae (fun X hX=>⟨hX.celF G k1,hX.celF l k2,hX.celF l k4,hX.celF l k5⟩)
   clear G l a1 a2 a4 a5;refine yp ?_ (RC wr I N nm id ky (.slice va xs.length vc) R (aR T) oc) ?_ ?_;rotate_left
   ·refine wp_region_held_drew (S:=fun X=>X.cell? ⟨pb,1,none⟩=some (.pointer (some ⟨N,0,none⟩))∧X.cell? ⟨w.heap.size,2,none⟩=some (.string ⟨s.toArray⟩)∧X.cell? ⟨w.heap.size,4,none⟩=some (.int .i64 now)∧X.cell? ⟨w.heap.size,5,none⟩=some (.slice ra rs.length rc)) (by kernel_rfl) (a.o _ (Kp.refl _ wr).drew) (fun hHeld=> ?_)
    refine wtk 0 rfl ?_;refine wtk 1 rfl ?_;refine wtk 2 rfl ?_;refine wtk 3 rfl ?_;refine wtk 4 rfl ?_;refine wtk 5 rfl ?_;refine wtk 6 rfl ?_;refine wtk 7 rfl ?_;refine wtk 8 rfl ?_;refine wtk 9 rfl ?_;refine wpAnyH_ready (rs:=[10,14]) (by kernel_rfl) (by simp) (AllReadyH.cons rfl (fun K hK=> ?_) (AllReadyH.cons rfl (fun K hK=> ?_) AllReadyH.nil))
    ·refine aF rfl 89 _ _ rfl #[.pointer (some ⟨N,0,none⟩),.string ⟨s.toArray⟩,.int .i64 now,.slice ra rs.length rc] (by go_simp) ?_
     refine (ab.o _ (Kp.refl _ wr).drew).mono ?_;rintro e w4 ⟨rfl,C⟩;unfold eK;have A:=(Kp.refl I wr).drew.trans (EP C);refine hK.out _ _ (a.o _ A) (fun hHeld=> ?_);clear hK K;refine wtk 11 rfl ?_;refine wtk 12 rfl ?_;refine wtk 13 rfl ?_;refine EN 14 (.cons rfl (fun K hK=> ?_) .nil);go_simp
     refine hK.out _ _ (a.o _ (A.alloc _)) (fun hHeld=> ?_);clear hK K;refine EN 15 (.cons rfl (fun K hK=> ?_) .nil);go_simp
     refine hK.out _ _ (a.o _ (A.alloc _)) (fun hHeld=> ?_);clear hK K;refine wtk 16 rfl ?_;refine wpAnyH_done (by kernel_rfl) ?_ _;refine il w4.heap.size ?_ (zU C);generalize w4.heap.size=nn;rfl
    ·go_simp
     refine hK.out _ _ (a.o _ ((Kp.refl I wr).drew.alloc _)) (fun hHeld=> ?_);clear hK K;refine EN 10 (.cons rfl (fun K hK=> ?_) .nil);refine aF rfl 89 _ _ rfl #[.pointer (some ⟨N,0,none⟩),.string ⟨s.toArray⟩,.int .i64 now,.slice ra rs.length rc] (by go_simp) ?_;refine (ab.o _ ((Kp.refl _ wr).drew.alloc _)).mono ?_;rintro e w4 ⟨rfl,C⟩;unfold eK;have A:=((Kp.refl I wr).drew.alloc _).trans (EP C);have z0:=DE O C;obtain⟨⟨z3,z4⟩,z1,z2⟩:=aH z0;clear z0;refine hK.out _ _ (a.o _ A) (fun hHeld=> ?_);clear hK K;refine wtk 11 rfl ?_;refine wtk 12 rfl ?_;refine wtk 13 rfl ?_;refine EN 15 (.cons rfl (fun K hK=> ?_) .nil);go_simp
     refine hK.out _ _ (a.o _ (EO A)) (fun hHeld=> ?_);clear hK K;refine wtk 16 rfl ?_;refine wpAnyH_done (by kernel_rfl) ?_ _;refine il wr.heap.size ?_ (xM O C);generalize wr.heap.size=nn;rfl
   intro m w4 Q;have au:=Q.2
   have ar:w4.heap[n]? =some (.cells #[.int .i64 (oc.1:Int),.string ⟨oc.2.toArray⟩] 52):=by
    obtain⟨⟨_,K4,_,_,_⟩,_⟩:=Q;refine fU HZ.o.2.1 K4 (fun hf=> ?_);have h1:=b.o.2.2.2.2.2.2 n (b.o.2.2.2.2.1 n hf).1;have h2:=HZ.o.2.2;have h3:=c.o.1.size;omega
   have aE:=ae Q;obtain⟨⟨x0,x1⟩,_,_⟩:=aH ar;obtain⟨⟨y0,y1⟩,_,_⟩:=aH au;clear Q au ar ab a b1 o2 o3 o4 o5;go_wp2;go_ret;rw[aj.o];exact⟨rfl,qj b.o.1 b.o.2.2.2.1 b.o.2.2.2.2.1 b.o.2.2.2.2.2.1 b.o.2.2.2.2.2.2 (Kp.refl _ _) HZ.o.1.2 aE.o.1⟩
end
end Go.Proofs.YtocligpfmfmihaaGreatDoor
