import Derived.Test.YtocligpfmfmihaaGreatDoorRd5G
import Derived.Maps.OwnSet
import Derived.Maps.Own
import Derived.Deep.RegionLaw
import Derived.Maps.AppendAt
set_option maxRecDepth 20000
namespace Go.Proofs.YtocligpfmfmihaaGreatDoor
open Go.Proofs.Tryz
section
open Go Go.RowKit Go.Maps
def Rv(v:Value):Option (DataW Value×List MemPlace):=some (.held v,[])
def dm(m:List (Bs×Value)):DataW Value:=.map (m.map fun p=>(.string p.1,.held p.2))
theorem v7(a b:List UInt8):bytesBefore a b=decide (a < b):=by
 induction a generalizing b with
 |nil=>cases b <;> simp[bytesBefore]
 |cons x a ih=>
  cases b with
  |nil=>simp[bytesBefore]
  |cons y b=>
   rw[bytesBefore,ih,Bool.eq_iff_iff];simp only[Bool.or_eq_true,decide_eq_true_eq,Bool.and_eq_true,beq_iff_eq];rw[List.cons_lt_cons_iff]
theorem gA(a b:List UInt8):(Lit.string a).sameKey (.string b)=decide (a=b):=by rw[Lit.sameKey,Bool.eq_iff_iff];simp
def dE(p:Bs×Value):Lit×DataW Value:=(.string p.1,.held p.2)
theorem Av(m:List (Bs×Value)):dm m=.map (m.map dE):=rfl
theorem nP{k:Bs}(m:List (Bs×Value))(h:∀p ∈ m,p.1≠k):(m.map dE).filter (fun p=> !p.1.sameKey (.string k))=m.map dE:=by
 rw[List.filter_eq_self];intro p hp;obtain⟨q,a,rfl⟩:=List.mem_map.1 hp;simp only[dE,gA];simp[h q a]
theorem iB(k:Bs)(v:Value):∀(m:List (Bs×Value)),Srt m→(dm m).put (.string k) (.held v)=dm (aC k v m):=by
 intro m i;show DataW.map (DataW.insert (dE (k,v)) ((m.map dE).filter fun p=> !p.1.sameKey (.string k)))=DataW.map ((aC k v m).map dE)
 congr 1
 induction m with
 |nil=>rfl
 |cons p l ih=>
  obtain⟨a,x⟩:=p;obtain⟨d,h⟩:=List.pairwise_cons.1 i
  have c:∀(q:Bs×Value) (r:List (Lit×DataW Value)),DataW.insert (dE (k,v)) (dE q :: r)=if k < q.1 then dE (k,v) :: dE q :: r else dE q :: DataW.insert (dE (k,v)) r:=by
   intro q r;rw[DataW.insert];simp only[dE,Lit.before,v7,decide_eq_true_eq]
  unfold aC;by_cases b:k < a
  ·rw[if_pos b,nP _ (by
     intro p hp e;rcases List.mem_cons.1 hp with rfl | hp
     · subst e;exact dz _ b
     · have:=d p hp
       rw[e]at this;exact dz _ (kC b this))]
   simp only[List.map_cons];rw[c,if_pos b]
  ·rw[if_neg b]
   by_cases f:a=k
   ·subst f
    rw[if_pos rfl]
    have g:(((a,x) :: l).map dE).filter (fun p=> !p.1.sameKey (.string a))=l.map dE:=by
     rw[List.map_cons,List.filter_cons_of_neg (by simp[dE,gA])];exact nP l (fun p hp e=>by have:=d p hp;rw[e]at this;exact dz _ this)
    rw[g]
    cases l with
    |nil=>rfl
    |cons q r=>
     simp only[List.map_cons];rw[c,if_pos (d q (by simp))]
   ·rw[if_neg f]
    rw[List.map_cons,List.filter_cons_of_pos (by simp[dE,gA,f]),c,if_neg b,ih h];rfl
theorem qP(k:Bs)(m:List (Bs×Value)):Maps.has (dm m) (.string k)=(ai k m).isSome:=by
 rw[Av,has_eq]
 induction m with
 |nil=>rfl
 |cons p l ih=>
  obtain⟨a,x⟩:=p;rw[List.map_cons,List.any_cons,ih];simp only[dE,gA,ai];by_cases h:a=k <;> simp[h]
theorem l7(k:Bs)(m:List (Bs×Value))(z:DataW Value):(dm m).atKey (.string k) z=match ai k m with | some v=>.held v | none=>z:=by
 rw[Av]
 induction m with
 |nil=>rfl
 |cons p l ih=>
  obtain⟨a,x⟩:=p;simp only[DataW.atKey]at ih ⊢;rw[List.map_cons,List.find?_cons];simp only[dE,gA,ai];by_cases h:a=k
  ·simp[h]
  ·simp only[h,decide_false]
   exact ih
theorem wG(k:Bs)(m:List (Bs×Value)):(dm m).del (.string k)=dm (bo k m):=by
 show DataW.map ((m.map dE).filter fun p=> !p.1.sameKey (.string k))=DataW.map ((bo k m).map dE)
 rw[bo,List.filter_map];congr 2
 apply List.filter_congr;intro p _;simp[dE,gA]
theorem gm(m:List (Bs×Value)):Maps.size (dm m)=m.length:=by simp[dm,Maps.size]
theorem ed:Keyed prog 9:=string_keyed underlying9
theorem d9{w:World}{b n:Nat}{m:List (Bs×Value)}(h:w.ownsMap prog 9 Rv b n (dm m)):w.ownsMap prog 9 Rv b m.length (dm m):=by
 obtain⟨c,a,f,g,i,d⟩:=h;refine⟨c,a,f,g, ?_,d⟩
 have e:Maps.size (dm m)=c.size:=by
  rw[d];simp only[Maps.size];exact length_read c
 rw[gm]at e;omega
mutual
def Rep(w:World)(F:Nat→Prop):J→Value→Prop
 |.null,v=>v=.iface 221 (.agg #[])
 |.bool b,v=>v=.iface 222 (.bool b)
 |.num n,v=>v=.iface 224 (.int .i64 n)
 |.str s,v=>v=.iface 137 (.string ⟨s.toArray⟩)
 |.arr l,v=>∃sv vs,v=.iface 228 sv∧w.ownsRow 0 59 1 sv l.length vs∧(∀b,sv.ownBlock=some b→F b)∧Reps w F l vs
 |.obj l,v=>∃b m,v=.iface 71 (.map (some b))∧F b∧w.ownsMap prog 9 Rv b m.length (dm m)∧Repm w F l m
def Reps(w:World)(F:Nat→Prop):List J→List Value→Prop
 | [],vs=>vs=[]
 |x :: l,vs=>∃v r,vs=v :: r∧Rep w F x v∧Reps w F l r
def Repm(w:World)(F:Nat→Prop):List (Bs×J)→List (Bs×Value)→Prop
 | [],m=>m=[]
 | (k,x) :: l,m=>∃v r,m=(k,v) :: r∧Rep w F x v∧Repm w F l r
end
theorem ap{w w':World}{B:Nat}{e:TypeId}{sz n:Nat}{v:Value}{xs:List Value}(h:w.ownsRow B e sz v n xs)(hk:∀k,v.ownBlock=some k→w'.heap[k]? =w.heap[k]?):w'.ownsRow B e sz v n xs:=by
 obtain⟨d,c⟩:=h;refine⟨d, ?_⟩;rcases c with c | ⟨g,a,b,rfl,f,i,r⟩
 ·exact Or.inl c
 ·exact Or.inr ⟨g,a,b,rfl,f,by rw[hk g rfl];exact i,r⟩
theorem ay{w w':World}{b n:Nat}{D:DataW Value}(h:w.ownsMap prog 9 Rv b n D)(hk:w'.heap[b]? =w.heap[b]?):w'.ownsMap prog 9 Rv b n D:=by
 obtain⟨c,a,d,e⟩:=h;exact⟨c,a,hk.trans d,e⟩
mutual
theorem Rep.frame{w w':World}{F:Nat→Prop}(h:∀k,F k→w'.heap[k]? =w.heap[k]?):∀(j:J) {v:Value},Rep w F j v→Rep w' F j v
 |.null,_,hj=>by rw[Rep]at hj ⊢;exact hj
 |.bool _,_,hj=>by rw[Rep]at hj ⊢;exact hj
 |.num _,_,hj=>by rw[Rep]at hj ⊢;exact hj
 |.str _,_,hj=>by rw[Rep]at hj ⊢;exact hj
 |.arr l,_,hj=>by
  rw[Rep]at hj ⊢;obtain⟨sv,f,e,a,c,d⟩:=hj;exact⟨sv,f,e,ap a (fun k hk=>h k (c k hk)),c,Reps.frame h l d⟩
 |.obj l,_,hj=>by
  rw[Rep]at hj ⊢;obtain⟨b,m,e,a,c,d⟩:=hj;exact⟨b,m,e,a,ay c (h b a),Repm.frame h l d⟩
theorem Reps.frame{w w':World}{F:Nat→Prop}(h:∀k,F k→w'.heap[k]? =w.heap[k]?):∀(l:List J) {vs:List Value},Reps w F l vs→Reps w' F l vs
 | [],_,hj=>by rw[Reps]at hj ⊢;exact hj
 |x :: l,_,hj=>by
  rw[Reps]at hj ⊢;obtain⟨v,r,e,a,b⟩:=hj;exact⟨v,r,e,Rep.frame h x a,Reps.frame h l b⟩
theorem Repm.frame{w w':World}{F:Nat→Prop}(h:∀k,F k→w'.heap[k]? =w.heap[k]?):∀(l:List (Bs×J)) {m:List (Bs×Value)},Repm w F l m→Repm w' F l m
 | [],_,hj=>by rw[Repm]at hj ⊢;exact hj
 | (k,x) :: l,_,hj=>by
  rw[Repm]at hj ⊢;obtain⟨v,r,e,a,b⟩:=hj;exact⟨v,r,e,Rep.frame h x a,Repm.frame h l b⟩
end
mutual
theorem Rep.mono{w:World}{F G:Nat→Prop}(h:∀k,F k→G k):∀(j:J) {v:Value},Rep w F j v→Rep w G j v
 |.null,_,hj=>by rw[Rep]at hj ⊢;exact hj
 |.bool _,_,hj=>by rw[Rep]at hj ⊢;exact hj
 |.num _,_,hj=>by rw[Rep]at hj ⊢;exact hj
 |.str _,_,hj=>by rw[Rep]at hj ⊢;exact hj
 |.arr l,_,hj=>by
  rw[Rep]at hj ⊢;obtain⟨sv,f,e,a,c,d⟩:=hj;exact⟨sv,f,e,a,fun k hk=>h k (c k hk),Reps.mono h l d⟩
 |.obj l,_,hj=>by
  rw[Rep]at hj ⊢;obtain⟨b,m,e,a,c,d⟩:=hj;exact⟨b,m,e,h b a,c,Repm.mono h l d⟩
theorem Reps.mono{w:World}{F G:Nat→Prop}(h:∀k,F k→G k):∀(l:List J) {vs:List Value},Reps w F l vs→Reps w G l vs
 | [],_,hj=>by rw[Reps]at hj ⊢;exact hj
 |x :: l,_,hj=>by
  rw[Reps]at hj ⊢;obtain⟨v,r,e,a,b⟩:=hj;exact⟨v,r,e,Rep.mono h x a,Reps.mono h l b⟩
theorem Repm.mono{w:World}{F G:Nat→Prop}(h:∀k,F k→G k):∀(l:List (Bs×J)) {m:List (Bs×Value)},Repm w F l m→Repm w G l m
 | [],_,hj=>by rw[Repm]at hj ⊢;exact hj
 | (k,x) :: l,_,hj=>by
  rw[Repm]at hj ⊢;obtain⟨v,r,e,a,b⟩:=hj;exact⟨v,r,e,Rep.mono h x a,Repm.mono h l b⟩
end
theorem Reps.snoc{w:World}{F:Nat→Prop}{x:J}{v:Value}(hx:Rep w F x v):∀(l:List J) (vs:List Value),Reps w F l vs→Reps w F (l ++[x]) (vs ++[v])
 | [],vs,h=>by
  rw[Reps]at h;subst h;simp only[List.nil_append];rw[Reps];exact⟨v,[],rfl,hx,by rw[Reps]⟩
 |y :: l,vs,h=>by
  rw[Reps]at h;obtain⟨u,r,rfl,a,b⟩:=h;simp only[List.cons_append];rw[Reps];exact⟨u,r ++[v],rfl,a,Reps.snoc hx l r b⟩
theorem Repm.ins{w:World}{F:Nat→Prop}{k:Bs}{x:J}{v:Value}(hx:Rep w F x v):∀(l:List (Bs×J)) (m:List (Bs×Value)),Repm w F l m→Repm w F (aC k x l) (aC k v m)
 | [],m,h=>by
  rw[Repm]at h;subst h;simp only[aC];rw[Repm];exact⟨v,[],rfl,hx,by rw[Repm]⟩
 | (a,y) :: l,m,h=>by
  have e:=h;rw[Repm]at h;obtain⟨u,r,rfl,f,d⟩:=h;simp only[aC];by_cases b:k < a
  ·rw[if_pos b,if_pos b,Repm]
   exact⟨v,_,rfl,hx,e⟩
  ·rw[if_neg b,if_neg b]
   by_cases c:a=k
   ·rw[if_pos c,if_pos c,Repm]
    exact⟨v,r,rfl,hx,d⟩
   ·rw[if_neg c,if_neg c,Repm]
    exact⟨u,_,rfl,f,Repm.ins hx l r d⟩
theorem Repm.keys{w:World}{F:Nat→Prop}:∀(l:List (Bs×J)) (m:List (Bs×Value)),Repm w F l m→m.map (·.1)=l.map (·.1)
 | [],m,h=>by rw[Repm]at h;subst h;rfl
 | (a,y) :: l,m,h=>by
  rw[Repm]at h;obtain⟨u,r,rfl,c,b⟩:=h;simp only[List.map_cons];rw[Repm.keys l r b]
theorem iV{α β:Type}{l:List (Bs×α)}{m:List (Bs×β)}(h:m.map (·.1)=l.map (·.1))(hl:Srt l):Srt m:=by
 have a:(l.map (·.1)).Pairwise (· < ·):=List.pairwise_map.2 hl;rw[←h]at a;exact List.pairwise_map.1 a
theorem Repm.look{w:World}{F:Nat→Prop}(k:Bs):∀(l:List (Bs×J)) (m:List (Bs×Value)),Repm w F l m→(ai k m=none∧ai k l=none)∨∃v x,ai k m=some v∧ai k l=some x∧Rep w F x v
 | [],m,h=>by rw[Repm]at h;subst h;exact Or.inl ⟨rfl,rfl⟩
 | (a,y) :: l,m,h=>by
  rw[Repm]at h;obtain⟨u,r,rfl,c,d⟩:=h;simp only[ai];by_cases b:a=k
  ·rw[if_pos b,if_pos b]
   exact Or.inr ⟨u,y,rfl,rfl,c⟩
  ·rw[if_neg b,if_neg b]
   exact Repm.look k l r d
theorem dp{P:Program}{ops:Array Oper}{o:Oper}{a:Act}{w:World}{K:Act→World→Prop}{Q:Exit→Act→World→Prop}{E:Prop}(hgd:o.guard=none)(s x:Operand)(t:TypeId)
  (ho:o.op=.call { callee:=.builtin .append,args:= #[s,x],argTypes:= #[t,t] })
  (base:Nat) (e:TypeId) (i:TypeInfo) (z:Value) (size bytes:Nat) (ht:P.underlying t=some (.slice e)) (hi:P.info? e=some i) (hz:i.zero=some z)
  (hsize:i.size=size) (hby:i.bytes=bytes) (hzs:z.cells.size=size) (hsz:0 < size)
  (v:Value) (n:Nat) (xs:List Value) (hs:a.eval s=v) (hown:w.ownsRow base e size v n xs)
  (ad:Addr) (m c:Nat) (news:List Value) (hx:a.eval x=.slice (some ad) m c) (hl:news.length=m*size) (hnews:∀j u,news[j]? =some u→w.cell? (ad.add j)=some u) (h1:∀u ∈ news,u.oneCell'=true)
  (h63:n+m≤maxLen) (hbytes:(n+m)*bytes≤140737488355328) (hbase:base≤w.heap.size)
  (h:∀b w',w'.ownsRow base e size b (n+m) (xs ++news)→w.grownBy w' v.ownBlock→(b.ownBlock=v.ownBlock∨b.ownBlock=some w.heap.size)→K (a.put o.dst b) w') :
  if Region.wanted o (yielded ops a.tmps)=true then Oper.wp P o a w K Q else E:=by
 have l:Region.wanted o (yielded ops a.tmps)=true:=by simp[Region.wanted,hgd]
 rw[if_pos l];obtain⟨b,w',k,d,f,p,g⟩:=run_append_own_at (P:=P) w base t o.type e i z size bytes ht hi hz hsize hby hzs hsz v n xs hown ad m c news hl hnews h1 h63 hbytes hbase;unfold Oper.wp execOp;simp only[ho,resolve,invoke,builtin,Sem.run_bind,Sem.run_pure,Result.andThen_ok,List.map_toArray,List.map_cons,List.map_nil,hs,hx,k];exact h b w' d f g
theorem dG{P:Program}{ops:Array Oper}{o:Oper}{a:Act}{w:World}{K:Act→World→Prop}{Q:Exit→Act→World→Prop}{E:Prop}(hgd:o.guard=none)(f:FuncId)(args:Array Value)
  (hrun:(execOp a.eval o).run P w=.ok (.enter f args) w)
  (h:Calls P f args w fun | .returned v,w''=>K (a.put o.dst v) w'' | .panicked chain,w''=>Q (.panic chain) a w'' | .outgrown,_=>LetsOut Q) :
  if Region.wanted o (yielded ops a.tmps)=true then Oper.wp P o a w K Q else E:=by
 have b:Region.wanted o (yielded ops a.tmps)=true:=by simp[Region.wanted,hgd]
 rw[if_pos b];unfold Oper.wp;rw[hrun,Oper.upon_enter];exact h
def jn(W:World)(d:Nat):Prop:=∀(rb:Nat) (s:ByteArray) (k:Nat) (w:World),St W w rb s k d →
 Calls prog 109 #[.pointer (some ⟨rb,0,none⟩)] w fun e w'=>
  Res W rb s d w (az false (6 - d) (ah s k)) (fun w' j v=>Rep w' (fun b=>w.heap.size≤b∧b < w'.heap.size) j v) e w'
def ArrI(lo rb ab bb:Nat)(x:List J)(w:World):Prop:=
 ∃sv vs G,w.heap[ab]? =some (.cells #[sv] 228)∧w.heap[bb]? =some (.cells #[.pointer (some ⟨rb,0,none⟩)] 201) ∧
  w.ownsRow lo 59 1 sv x.length vs∧Reps w G x vs∧(∀k,G k→lo≤k∧k < w.heap.size∧k≠ab∧k≠bb)∧(∀k,sv.ownBlock=some k→¬G k∧k≠ab∧k≠bb)
theorem DZ:(prog.info? 59).map (fun i=>(i.zero,i.size,i.bytes))=some (some .nilIface,1,16):=by kernel_rfl
theorem ag{w:World}{b:Nat}{o:Obj}(h:w.heap[b]? =some o):b < w.heap.size:=by
 rcases Nat.lt_or_ge b w.heap.size with a | a
 ·exact a
 ·rw[Array.getElem?_eq_none a]at h;cases h
theorem Rep.iface{w:World}{F:Nat→Prop}{j:J}{v:Value}(h:Rep w F j v):∃t u,v=.iface t u:=by
 cases j <;> rw[Rep]at h
 ·exact⟨_,_,h⟩
 ·exact⟨_,_,h⟩
 ·exact⟨_,_,h⟩
 ·exact⟨_,_,h⟩
 ·obtain⟨_,_,e,_⟩:=h
  exact⟨_,_,e⟩
 ·obtain⟨_,_,e,_⟩:=h
  exact⟨_,_,e⟩
theorem aK{w:World}{B:Nat}{e:TypeId}{v:Value}{n:Nat}{xs:List Value}(h:w.ownsRow B e 1 v (n+1) xs):∃g a,v=.slice (some ⟨g,0,none⟩) (n+1) a:=by
 obtain⟨_,⟨_,h⟩ | ⟨g,a,b,h,_⟩⟩:=h
 ·omega
 ·exact⟨g,a,h⟩
theorem aj{w:World}{b:Nat}{v:Value}{t:TypeId}(h:w.heap[b]? =some (.cells #[v] t)):w.cell? ⟨b,0,none⟩=some v∧w.frozen? ⟨b,0,none⟩=false:=by
 constructor
 ·simp[World.cell?,h]
 ·simp[World.frozen?,h]
theorem d8{w:World}{b:Nat}{v:Value}{t:TypeId}(h:w.heap[b]? =some (.cells #[v] t))(u:Value):(w.setCell ⟨b,0,none⟩ u).heap[b]? =some (.cells #[u] t):=by simp[World.setCell,Array.getElem?_modify,h]
theorem af{w:World}{p:Addr}{u:Value}{k:Nat}(h:k≠p.block):(w.setCell p u).heap[k]? =w.heap[k]? :=Below.heap_setCell _ _ _ _ h
theorem DB{w:World}{o:Obj}{a b:Option Nat}(h:a=b∨a=some (w.alloc o).heap.size):a=b∨∃q,w.heap.size≤q∧a=some q:=by
 rcases h with h | h
 ·exact Or.inl h
 ·exact Or.inr ⟨_,((Kp.refl (fun _=>False) w).alloc o).size,h⟩
theorem Be{lo rb ab bb:Nat}(hab:ab≠bb){x:List J}{j:J}{v:Value}{sv sv':Value}{vs:List Value}{G:Nat→Prop}{w1 w2 w3:World}(hrb:rb < lo)(ha1:ab < w1.heap.size)(hb1:bb < w1.heap.size)
  (hl1:lo≤w1.heap.size)
  (i3:w1.ownsRow lo 59 1 sv x.length vs) (i4:Reps w1 G x vs) (i5:∀k,G k→lo≤k∧k < w1.heap.size∧k≠ab∧k≠bb) (i6:∀k,sv.ownBlock=some k→¬G k∧k≠ab∧k≠bb)
  (g1:Kp (· =rb) w1 w2) (g3:Rep w2 (fun b=>w1.heap.size≤b∧b < w2.heap.size) j v) (B1:Kp (fun k=>sv.ownBlock=some k) w2 w3)
  (y1:w3.ownsRow lo 59 1 sv' (x.length+1) (vs ++[v])) (p:sv'.ownBlock=sv.ownBlock∨∃q,w2.heap.size≤q∧sv'.ownBlock=some q)
  (h1:w3.heap[ab]? =some (.cells #[sv] 228)) (h2:w3.heap[bb]? =some (.cells #[.pointer (some ⟨rb,0,none⟩)] 201)) :
  ArrI lo rb ab bb (x ++[j]) (w3.setCell ⟨ab,0,none⟩ sv'):=by
 have l:=g1.size;have m:=B1.size;have n:(w3.setCell ⟨ab,0,none⟩ sv').heap.size=w3.heap.size:=by simp[World.setCell]
 have old:∀k,G k→(w3.setCell ⟨ab,0,none⟩ sv').heap[k]? =w1.heap[k]? :=by
  intro k a;obtain⟨f,d,g,o⟩:=i5 k a;rw[af (by show k≠ab;omega),B1.block k (by omega) (fun e=>(i6 k e).1 a),g1.block k d (by omega)]
 have i:∀k,w1.heap.size≤k∧k < w2.heap.size→(w3.setCell ⟨ab,0,none⟩ sv').heap[k]? =w2.heap[k]? :=by
  rintro k ⟨f,d⟩;rw[af (by show k≠ab;omega),B1.block k d (fun e=>by have:=(i3.lt k e).2;omega)]
 have c:∀k,sv'.ownBlock=some k→¬(G k∨(w1.heap.size≤k∧k < w2.heap.size))∧k≠ab∧k≠bb:=by
  intro k a;rcases p with e | ⟨q,r,e⟩
  ·obtain⟨f,d,g⟩:=i6 k (e.symm.trans a)
   have:=(i3.lt k (e.symm.trans a)).2;exact⟨by rintro (h | h);exact f h;omega,d,g⟩
  ·rw[e]at a
   injection a with a
   refine⟨?_,by omega,by omega⟩;rintro (h | h)
   ·have:=i5 k h;omega
   ·omega
 refine⟨sv',vs ++[v],fun k=>G k∨(w1.heap.size≤k∧k < w2.heap.size),d8 h1 _, ?_, ?_, ?_, ?_,c⟩
 ·rw[af (by show bb≠ab;omega)];exact h2
 ·rw[List.length_append]
  refine ap y1 ?_;intro k a;exact af (c k a).2.1
 ·exact Reps.snoc (Rep.mono (fun k a=>Or.inr a) j (Rep.frame i j g3)) _ _ (Reps.mono (fun k a=>Or.inl a) x (Reps.frame old x i4))
 ·rintro k (a | ⟨hk1,hk2⟩)
  ·obtain⟨f,d,g,o⟩:=i5 k a
   exact⟨f,by omega,g,o⟩
  ·exact⟨by omega,by omega,by omega,by omega⟩
theorem th(W:World)(rb:Nat)(s:ByteArray)(d:Nat)(hv:jn W d)(w0:World)(ab bb:Nat)(hab:ab≠bb)(hrb:rb < w0.heap.size)(h0:w0.heap.size≤ab)(h0':w0.heap.size≤bb)
  (x:List J) (w1:World) (k1:Nat) (hr:St W w1 rb s k1 d) (hI:ArrI w0.heap.size rb ab bb x w1) (hk:Kp (· =rb) w0 w1) (j:J) (r:List UInt8) (hp:az false (6 - d) (ah s k1)=some (j,r)) (hx:x.length≤700) :
  Calls prog 205 #[.pointer (some ⟨ab,0,none⟩),.pointer (some ⟨bb,0,none⟩)] w1 fun e w2=>Ser W rb s d w0 (some (x ++[j],r)) (ArrI w0.heap.size rb ab bb) e w2:=by
 obtain⟨sv,vs,G,z,i2,i3,i4,i5,A⟩:=hI;obtain⟨i0,g,C,D,E⟩:=info_parts DZ;have ca:w1.cell? ⟨ab,0,none⟩=some sv:=by simp[World.cell?,z]
 have fa:w1.frozen? ⟨ab,0,none⟩=false:=by simp[World.frozen?,z]
 have cb:w1.cell? ⟨bb,0,none⟩=some (.pointer (some ⟨rb,0,none⟩)):=by simp[World.cell?,i2]
 have T:=ae hp;have f:=ae (An z i2);clear hp z i2;go_enter func205,ntmps205;go_wp2_with fail
 go_region_law (first
   | (refine dp rfl (.tmp 2) (.tmp 5) 228 rfl w0.heap.size 59 i0 .nilIface 1 16 underlying228 g C D E rfl (by decide) sv x.length vs (by simp[Act.eval]) (a.alloc _) ⟨w2.heap.size,0,none⟩ 1 1 [.iface t u] (by simp[Act.eval]) rfl (cell_one_new _ _ _) (by intro q P;simp at P;subst P;rfl) (by unfold maxLen;omega) (by omega) (by have:=F;simp;omega) ?_;intro v' w3 R H y3;obtain⟨N,c,rfl⟩:=aK R;obtain⟨V,aa⟩:=aj ((H.block ab (by simp;omega) (by intro e;exact (A ab e.symm).2.1 rfl)).trans ((Below.heap_alloc _ _ _ (by omega)).trans (b.o))))
   | (refine dG rfl 109 #[.pointer (some ⟨rb,0,none⟩)] (by go_simp) ?_;refine (hv rb s k1 _ (hr.drewN 1)).mono ?_;rintro e w2 ⟨g0,O⟩;have h:Kp (· =rb) w1 w2:=((Kp.refl _ _).drewN 1).trans g0;rw[T.o]at O;obtain⟨vv,Q,rfl,g3,g4,g5⟩:=O;obtain⟨t,u,rfl⟩:=Rep.iface g3;have b:Hid (w2.heap[ab]? =some (.cells #[sv] 228)):=(h.block ab (ag f.o.1) (by omega)).trans f.o.1;obtain⟨B,Y⟩:=aj b.o;have X:∀o,(w2.alloc o).cell? ⟨ab,0,none⟩=some sv:=fun o=>(World.cell?_of_block (w:=w2) (Below.heap_alloc _ _ _ (ag b.o))).trans B;have a:=an i3 h (fun k hk=>by have:=(i3.lt k hk).1;omega);have F:=Nat.lt_of_lt_of_le (ag f.o.2) h.size;have i5'':=ag b.o))
 all_goals
  have l:Kp (fun k=>sv.ownBlock=some k) w2 w3:=((Kp.refl _ _).alloc _).grown H (fun k hk _=>hk);have ac:w2.heap.size < w3.heap.size:=by have:=H.size;simp at this;omega
  have m:w3.heap[ab]? =some (.cells #[sv] 228):=(l.block ab (ag b.o) (fun e=>(A ab e).2.1 rfl)).trans b.o;have n:w2.heap[bb]? =some (.cells #[.pointer (some ⟨rb,0,none⟩)] 201):=(h.block bb (ag f.o.2) (by omega)).trans f.o.2;have v:w3.heap[bb]? =some (.cells #[.pointer (some ⟨rb,0,none⟩)] 201):=(l.block bb (ag n) (fun e=>(A bb e).2.2 rfl)).trans n;have U:St W w3 rb s Q d:=g4.keep l (fun i g=>by have:=(a.lt i g).1;have:=hr.old.size;have:=hr.ge;omega) (fun g=>by have:=(a.lt rb g).1;omega);have K:=ae (An m v);clear m v;have y:=DB y3;have I:=Be hab hrb (ag f.o.1) (ag f.o.2) hk.size i3 i4 i5 A h g3 l R y K.o.1 K.o.2;have M:St W (w3.setCell ⟨ab,0,none⟩ (.slice (some ⟨N,0,none⟩) (x.length+1) c)) rb s Q d:=U.keep (S:=fun k=>k=ab) (Kp.setCell (p:=⟨ab,0,none⟩) (Kp.refl (fun k=>k=ab) w3) (fun _=>rfl) _) (fun i g=>by have:=hr.old.size;have:=hr.ge;omega) (by omega);have L:Kp (· =rb) w0 (w3.setCell ⟨ab,0,none⟩ (.slice (some ⟨N,0,none⟩) (x.length+1) c)):=Kp.setCell (p:=⟨ab,0,none⟩) ((hk.trans h).and l (fun i g e=>by have:=(a.lt i e).1;omega)) (fun hlt=>by exact absurd hlt (by show ¬ab < _;omega)) _;have Z:=ae (An I (An M L));clear I M L y;go_wp2;go_end0
  exact kN rfl Z.o.2.2 Z.o.1 Z.o.2.1 g5
theorem tg(W:World)(rb:Nat)(s:ByteArray)(d:Nat)(hv:jn W d)(w0:World)(ab bb:Nat)
  (x:List J) (w1:World) (k1:Nat) (hr:St W w1 rb s k1 d) (hI:ArrI w0.heap.size rb ab bb x w1) (hk:Kp (· =rb) w0 w1) (hp:az false (6 - d) (ah s k1)=none) :
  Calls prog 205 #[.pointer (some ⟨ab,0,none⟩),.pointer (some ⟨bb,0,none⟩)] w1 fun e w2=>Kp (· =rb) w0 w2∧eP W w0 w2 e:=by
 obtain⟨sv,t,G,k,i2,i3,i4,i5,r⟩:=hI;obtain⟨l,n⟩:=aj k;obtain⟨m,p⟩:=aj i2;have j:=ae hp;clear hp k i2;go_enter func205,ntmps205;go_wp2_with fail
 refine wp_region_any (by kernel_rfl) ?_;change wpAny _ _ _ _ _ _ _ (World.drew _)
 refine wpAny_ready (rs:=[0,1]) (by kernel_rfl) (by simp) ?_;refine AllReady.cons rfl (fun K hK=> ?_) ?_
 ·go_simp
  refine hK _ _ ?_;clear hK K;refine wpAny_ready (rs:=[1]) (by kernel_rfl) (by simp) ?_;refine AllReady.cons rfl (fun K hK=> ?_) AllReady.nil;go_simp
  refine hK _ _ ?_;clear hK K;refine wpAny_ready (rs:=[2]) (by kernel_rfl) (by simp) ?_;refine AllReady.cons rfl (fun K hK=> ?_) AllReady.nil
  (refine dG rfl 109 #[.pointer (some ⟨rb,0,none⟩)] (by go_simp) ?_;refine (hv rb s k1 _ (hr.drewN 1)).mono ?_;rintro e w2 ⟨f,c⟩;have h:Kp (· =rb) w1 w2:=((Kp.refl _ _).drewN 1).trans f;rw[j.o]at c;obtain⟨b,i,g,a,rfl,q⟩:=c;exact⟨rfl,hk.trans h,b,i,g,a,rfl,Nat.le_trans hk.size q.1,q.2⟩)
 refine AllReady.cons rfl (fun K hK=> ?_) AllReady.nil;go_simp
 refine hK _ _ ?_;clear hK K;refine wpAny_ready (rs:=[0,2]) (by kernel_rfl) (by simp) ?_;refine AllReady.cons rfl (fun K hK=> ?_) ?_
 ·go_simp
  refine hK _ _ ?_;clear hK K;refine wpAny_ready (rs:=[2]) (by kernel_rfl) (by simp) ?_;refine AllReady.cons rfl (fun K hK=> ?_) AllReady.nil
  (refine dG rfl 109 #[.pointer (some ⟨rb,0,none⟩)] (by go_simp) ?_;refine (hv rb s k1 _ (hr.drewN 1)).mono ?_;rintro e w2 ⟨f,c⟩;have h:Kp (· =rb) w1 w2:=((Kp.refl _ _).drewN 1).trans f;rw[j.o]at c;obtain⟨b,i,g,a,rfl,q⟩:=c;exact⟨rfl,hk.trans h,b,i,g,a,rfl,Nat.le_trans hk.size q.1,q.2⟩)
 refine AllReady.cons rfl (fun K hK=> ?_) AllReady.nil
 (refine dG rfl 109 #[.pointer (some ⟨rb,0,none⟩)] (by go_simp) ?_;refine (hv rb s k1 _ (hr.drewN 1)).mono ?_;rintro e w2 ⟨f,c⟩;have h:Kp (· =rb) w1 w2:=((Kp.refl _ _).drewN 1).trans f;rw[j.o]at c;obtain⟨b,i,g,a,rfl,q⟩:=c;exact⟨rfl,hk.trans h,b,i,g,a,rfl,Nat.le_trans hk.size q.1,q.2⟩)
end
end Go.Proofs.YtocligpfmfmihaaGreatDoor
