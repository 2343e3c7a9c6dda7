import Derived.Shelf.SlMaps.Clone
import Derived.Shelf.SlMaps.Copy
import Derived.Test.YtocligpfmfmihaaGreatDoorProg
import Derived.Test.YtocligpfmfmihaaGreatDoorCanG
import Derived.Maps.OwnSet
import Derived.WideMake
import Derived.Test.YtocligpfmfmihaaGreatDoorRef20G
import Derived.Test.YtocligpfmfmihaaGreatDoorRows
import Derived.WalkKit
import Derived.WalkSpells
import Derived.WalkLawsBesides
import Derived.ProofKit
import Derived.OpenShut
import Derived.ShutString
import Derived.Laws.IdiomStrings
set_option maxHeartbeats 1000000
set_option maxRecDepth 20000
namespace Go.Proofs
open Go.Proofs.Tryz
section
open Go.Shelf
def Tryz.clone130_ren:Go.Shelf.Ren:=⟨fun | 5=>130 | 7=>172 | n=>n,fun | 23=>71 | 25=>9 | 3=>59 | 4=>4 | 20=>20 | n=>n,fun | n=>n⟩
theorem Tryz.clone130:Go.Proofs.SlLaysW.n5 prog Tryz.clone130_ren:={
 mixed:=by kernel_rfl
 f5:=⟨Tryz.f130.name,by decide,func130.trans (congrArg some (by kernel_rfl))⟩
 f7:=func172.trans (congrArg some (by kernel_rfl))
 t4:=underlying4
 a4:=Tryz.isAgg4
 z4:=Tryz.sizeOf4
 v4:=Tryz.zeroValue4
 t20:=underlying20
 a20:=Tryz.isAgg20
 z20:=Tryz.sizeOf20
 v20:=Tryz.zeroValue20
 t23:=underlying71
 a23:=Tryz.isAgg71
 z23:=Tryz.sizeOf71
 v23:=Tryz.zeroValue71 }
def Tryz.copy132_ren:Go.Shelf.Ren:=⟨fun | 5=>132 | n=>n,fun | 23=>71 | 24=>71 | 26=>9 | 27=>59 | 0=>0 | 4=>4 | n=>n,fun | n=>n⟩
theorem Tryz.copy132:Go.Proofs.SlLaysX.n5 prog Tryz.copy132_ren:={
 mixed:=by kernel_rfl
 f5:=⟨Tryz.f132.name,by decide,func132.trans (congrArg some (by kernel_rfl))⟩
 t0:=underlying0
 a0:=Tryz.isAgg0
 z0:=Tryz.sizeOf0
 v0:=Tryz.zeroValue0
 t4:=underlying4
 a4:=Tryz.isAgg4
 z4:=Tryz.sizeOf4
 v4:=Tryz.zeroValue4
 t23:=underlying71
 a23:=Tryz.isAgg71
 z23:=Tryz.sizeOf71
 v23:=Tryz.zeroValue71
 t24:=underlying71
 a24:=Tryz.isAgg71
 z24:=Tryz.sizeOf71
 v24:=Tryz.zeroValue71
 a26:=Tryz.isAgg9
 z26:=Tryz.sizeOf9
 a27:=Tryz.isAgg59
 z27:=Tryz.sizeOf59 }
end
end Go.Proofs
namespace Go.Proofs.YtocligpfmfmihaaGreatDoor
open Go.Proofs.Tryz
section
open Go Go.RowKit Go.Maps Go.WideMaps
theorem to0(w:World):(Instr.typeAssert (.iface 221 (.agg #[])) 59 71 true).run prog w=.ok (.tuple #[.map none,.bool false]) w:=by kernel_rfl
theorem to1(b:Bool)(w:World):(Instr.typeAssert (.iface 222 (.bool b)) 59 71 true).run prog w=.ok (.tuple #[.map none,.bool false]) w:=by kernel_rfl
theorem to2(n:Int)(w:World):(Instr.typeAssert (.iface 224 (.int .i64 n)) 59 71 true).run prog w=.ok (.tuple #[.map none,.bool false]) w:=by kernel_rfl
theorem to3(s:ByteArray)(w:World):(Instr.typeAssert (.iface 137 (.string s)) 59 71 true).run prog w=.ok (.tuple #[.map none,.bool false]) w:=by kernel_rfl
theorem to4(sv:Value)(w:World):(Instr.typeAssert (.iface 228 sv) 59 71 true).run prog w=.ok (.tuple #[.map none,.bool false]) w:=by kernel_rfl
def isO:J→Bool | .obj _=>true | _=>false
theorem xR{w:World}{F:Nat→Prop}{j:J}{tt:TypeId}{u:Value}(h:Rep w F j (.iface tt u))(hj:isO j=false):∀w,(Instr.typeAssert (.iface tt u) 59 71 true).run prog w=.ok (.tuple #[.map none,.bool false]) w:=by
 cases j with
 |null=>rw[Rep]at h;cases h;exact to0
 |bool b=>rw[Rep]at h;cases h;exact to1 b
 |num n=>rw[Rep]at h;cases h;exact to2 n
 |str s=>rw[Rep]at h;cases h;exact to3 _
 |arr l=>rw[Rep]at h;obtain⟨sv,a,e,_⟩:=h;cases e;exact to4 _
 |obj l=>cases hj
def Ob(w:World)(F:Nat→Prop)(l:List (Bs×J))(v:Value):Prop:=Rep w F (.obj l) (.iface 71 v)
theorem Ob.shape{w:World}{F:Nat→Prop}{l:List (Bs×J)}{v:Value}(h:Ob w F l v):∃b m,v=.map (some b)∧F b∧w.ownsMap prog 9 Rv b m.length (dm m)∧Repm w F l m:=by
 unfold Ob at h;rw[Rep]at h;obtain⟨b,m,e,a,c,d⟩:=h;cases e
 exact⟨b,m,rfl,a,c,d⟩
def OoR(W w:World)(l:Bs)(e:Ending)(w':World):Prop:=Kp (fun _=>False) w w'∧((∃o b,aM l=.ok o∧e=.returned (.tuple #[.map (some b),.nilIface])∧Ob w' (fun b=>w.heap.size≤b∧b < w'.heap.size) o (.map (some b))) ∨
    (∃n ev,aM l=.error n∧e=.returned (.tuple #[.map none,ev])∧EV W w' ev n∧∃t u,ev=.iface t u))
theorem iT(W:World)(hN:NG W)(s:ByteArray)(w:World)(hW:Below W.heap.size W w):
  Calls prog 39 #[.string s] w fun e w'=>OoR W w s.data.toList e w':=by
 obtain⟨a,c,t,d,_⟩:=hN.obj;go_enter func39,ntmps39;go_wp2_with fail
 refine (tB W hN s w hW).mono ?_;rintro e w' ⟨f,⟨j,v,g,rfl,i⟩ | ⟨n,B,g,rfl,r,A,u,rfl⟩⟩
 ·have y:=am hW f
  obtain⟨A,u,rfl⟩:=Rep.iface i
  cases hj:isO j with
  |false=>
   have p:=xR i hj;have z:=Below.cl y d;have q:Hid (EV W w' (ax a) 3):=Or.inr (Or.inr ⟨rfl,d⟩);have k:=ae (show aM s.data.toList=.error 3 by unfold aM;rw[g];cases j <;> simp_all[isO]);have h:=ae f;unfold ax at z q;clear f g i d hj;go_wp2;go_quiet (fail)
   go_wp2;go_ret2
   exact⟨h.o.drewN _,Or.inr ⟨3,_,k.o,rfl,q.o,_,_,rfl⟩⟩
  |true=>
   cases j with
   |obj l=>
    have x:=ae i;rw[Rep]at i;obtain⟨b,m,e,_⟩:=i;cases e
    have p:=vN (some b);have k:=ae (show aM s.data.toList=.ok l by unfold aM;rw[g]);have h:=ae f;clear f g d hj;go_wp2;go_ret2
    exact⟨h.o,Or.inl ⟨l,b,k.o,rfl,x.o⟩⟩
   |null=>cases hj
   |bool _=>cases hj
   |num _=>cases hj
   |str _=>cases hj
   |arr _=>cases hj
 ·have k:=ae (show aM s.data.toList=.error n by unfold aM;rw[g])
  have h:=ae (An f r);clear f g r d;go_wp2;go_ret2
  exact⟨h.o.1,Or.inr ⟨n,_,k.o,rfl,h.o.2,_,_,rfl⟩⟩
theorem Repm.del{w:World}{F:Nat→Prop}(k:Bs):∀(l:List (Bs×J)) (m:List (Bs×Value)),Repm w F l m→Repm w F (bo k l) (bo k m)
 | [],m,h=>by
  rw[Repm]at h;subst h;simp only[bo,List.filter_nil];rw[Repm]
 | (a,y) :: l,m,h=>by
  rw[Repm]at h;obtain⟨u,r,rfl,c,d⟩:=h;have b:=Repm.del k l r d;unfold bo at b ⊢;by_cases e:a=k
  ·simpa[e] using b
  ·simp only[e,decide_false,Bool.not_false,List.filter_cons_of_pos]
   rw[Repm];exact⟨u,_,rfl,c,b⟩
theorem Kp.of_below{w w':World}(h:Below w.heap.size w w'):Kp (fun _=>False) w w':=⟨h.os,h.tape,h.output,h.size,fun k hk _=>h.block k hk⟩
theorem Kp.of_grown{w w1 w':World}{b:Nat}(h:Kp (fun _=>False) w w1)(hg:w1.grownBy w' (some b))(hb:w.heap.size≤b):Kp (fun _=>False) w w':=h.grown hg (fun k e hk=>by cases e;omega)
theorem jl{w:World}{b:Nat}{u v:Value}{t:TypeId}(h:w.heap[b]? =some (.cells #[u,v] t)):w.cell? ⟨b,0,none⟩=some u∧w.cell? ⟨b,1,none⟩=some v:=by constructor <;> simp[World.cell?,h]
theorem Ej:keyOf prog 9 (.string ⟨#[115,105,103,110,97,116,117,114,101,115]⟩)=some (.string kSig):=dj (o:=kSig) (by decide)
theorem Ek:keyOf prog 9 (.string ⟨#[117,110,115,105,103,110,101,100]⟩)=some (.string fV):=dj (o:=fV) (by decide)
theorem yn(w:World)(F:Nat→Prop)(l:List (Bs×J))(b kb:Nat)(ho:Ob w F l (.map (some b)))(hF:∀k,F k→k < w.heap.size)(hk:w.heap[kb]? =some (.cells #[.string ⟨#[115,105,103,110,97,116,117,114,101,115]⟩,.string ⟨#[117,110,115,105,103,110,101,100]⟩] 9)):
  Calls prog 73 #[.map (some b),.slice (some ⟨kb,0,none⟩) 2 2] w fun e w'=>e=.returned (.map (some w.heap.size))∧Kp (fun _=>False) w w'∧Ob w' (fun k=>F k∨k=w.heap.size) (di l) (.map (some w.heap.size)):=by
 obtain⟨y,m,e,v,d,f⟩:=ho.shape;cases e
 have h:=ag hk;go_enter func73,ntmps73;go_wp2_with fail
 refine (AnyW.maps_Clone_owns Tryz.clone130 9 Rv b m.length (dm m) w d).mono ?_;rintro e w1 ⟨rfl,x,_,c⟩;obtain⟨t,n⟩:=jl ((c.block kb h).trans hk);have i:=ae (Kp.of_below c);clear c;go_wp2_with fail
 refine wp_loop_rounds 3 ?_;rw[rounds_succ];go_wp2_with (first | (at_delete;refine wpList_delete_own _ rfl _ _ 71 9 rfl 59 ed underlying71 Rv w.heap.size m.length _ rfl x _ _ rfl Ej ?_;intro w2 p t2;have g:=t2.grown;have u:w2.cell? ⟨kb,1,none⟩=some (.string ⟨#[117,110,115,105,103,110,101,100]⟩):=(World.cell?_of_block (w:=w1) (a:=⟨kb,1,none⟩) (g.block kb (by have:=i.o.size;omega) (by intro e;injection e with e;omega))).trans n;clear t2 t n) | go_in)
 rw[wG]at p;have s:=ae (i.o.of_grown g (Nat.le_refl _));clear g;rw[rounds_succ];go_wp2_with (first | (at_delete;refine wpList_delete_own _ rfl _ _ 71 9 rfl 59 ed underlying71 Rv w.heap.size m.length _ rfl p _ _ rfl Ek ?_;intro w3 q t3;have g3:=t3.grown;clear t3) | go_in)
 rw[wG]at q;have j:=ae (s.o.of_grown g3 (Nat.le_refl _));have r:=ae (d9 q);clear g3;rw[rounds_succ];go_wp2;go_ret;refine⟨rfl,j.o, ?_⟩;unfold Ob;rw[Rep];refine⟨w.heap.size,bo fV (bo kSig m),rfl,Or.inr rfl,r.o, ?_⟩;refine Repm.mono (fun k hk=>Or.inl hk) _ (Repm.frame (w:=w) (fun k hk=>j.o.block k (hF k hk) (by simp)) _ ?_);exact Repm.del _ _ _ (Repm.del _ _ _ f)
theorem jr(W:World)(hN:NG W)(w:World)(hW:Below W.heap.size W w)(F:Nat→Prop)(l:List (Bs×J))(b:Nat)(ho:Ob w F l (.map (some b)))(hF:∀k,F k→k < w.heap.size)(hwf:WF 6 (.obj (di l)))(hc:cnt (.obj (di l))≤1000000)(hlen:(cnt (.obj (di l))+1)*((aA l).length+2)≤139000000000000):
  Calls prog 40 #[.map (some b)] w fun e w'=>e=.returned (.string ⟨(aA l).toArray⟩)∧Kp (fun _=>False) w w':=by
 obtain⟨u,m,e,t,f,g⟩:=ho.shape;cases e
 have H:=ae (An hwf (An hc (An hlen hF)));have c:Kp (fun _=>False) w (w.alloc (.cells #[.string ⟨#[115,105,103,110,97,116,117,114,101,115]⟩,.string ⟨#[117,110,115,105,103,110,101,100]⟩] 9)):=(Kp.refl _ w).alloc _;have d:Ob (w.alloc (.cells #[.string ⟨#[115,105,103,110,97,116,117,114,101,115]⟩,.string ⟨#[117,110,115,105,103,110,101,100]⟩] 9)) F l (.map (some b)):=Rep.frame (fun k hk=>c.block k (hF k hk) (by simp)) _ ho;have a:=heap_alloc_new w (.cells #[.string ⟨#[115,105,103,110,97,116,117,114,101,115]⟩,.string ⟨#[117,110,115,105,103,110,101,100]⟩] 9);have h:=ae (An c (An d a));clear hwf hc hlen c d a hF ho f g;go_enter func40,ntmps40;go_wp2_with fail
 refine (yn _ F l b w.heap.size h.o.2.1 (fun k hk=>by have:=H.o.2.2.2 k hk;simp;omega) h.o.2.2).mono ?_;rintro e w2 ⟨rfl,r,n⟩;simp only[World.size_alloc]at n;have i:=h.o.1.trans r;have j:=am hW i;have p:=ae (An i n);clear r n i;go_wp2_with fail
 refine (sG W hN.gl 6 (.obj (di l)) H.o.1 H.o.2.1 H.o.2.2.1 _ _ w2 j p.o.2).mono ?_;rintro e w3 ⟨rfl,q⟩;have s:=ae (p.o.1.trans (Az q));clear q;go_wp2;go_ret;exact⟨rfl,s.o⟩
theorem mS(k:Bs):∀(l:List (Bs×J)),bZ (bo k l)≤bZ l
 | []=>by simp[bo]
 | (a,y) :: l=>by
  have b:=mS k l;unfold bo at b ⊢;by_cases e:a=k
  ·simp only[e,decide_true,Bool.not_true,Bool.false_eq_true,not_false_iff,List.filter_cons_of_neg]
   rw[bZ];omega
  ·simp only[e,decide_false,Bool.not_false,List.filter_cons_of_pos]
   rw[bZ,bZ];omega
theorem xp(m:List (Bs×Value))(hm:Srt m):Lib.mergeD (dm []) (dm m)=dm m:=by
 have h:∀(l:List (Bs×Value)) (b:List (Bs×Value)),Srt b→(l.map dE).foldl (fun D p=>D.put p.1 p.2) (dm b)=dm (l.foldl (fun a p=>aC p.1 p.2 a) b):=by
  intro l
  induction l with
  |nil=>intro b _;rfl
  |cons p l ih=>
   intro b e;simp only[List.map_cons,List.foldl_cons];have:=iB p.1 p.2 b e;rw[←ih (aC p.1 p.2 b) (gC p.1 p.2 b e),←this];rfl
 have c:=h m [] (by simp[Srt]);have d:=uv m hm;unfold ofL at d;rw[d]at c;exact c
theorem Bz(w:World)(F:Nat→Prop)(l:List (Bs×J))(b:Nat)(k:Bs)(hk:k.length≤139000000000000)(ho:Ob w F l (.map (some b))):
  Calls prog 75 #[.map (some b),.string ⟨k.toArray⟩] w fun e w'=>∃q,e=.returned (.map (some q))∧Kp (fun _=>False) w w'∧Ob w' (fun j=>F j∨(w.heap.size≤j∧j < w'.heap.size)) (aq k l) (.map (some q)):=by
 obtain⟨B,m,e,t,i,n⟩:=ho.shape;cases e
 have c:∀G:Nat→Prop,G w.heap.size→Ob (w.alloc (.map #[] 0)) G [] (.map (some w.heap.size)):=by
  intro G y;unfold Ob;rw[Rep];refine⟨w.heap.size,[],rfl,y, ?_,by rw[Repm]⟩;simpa[dm] using World.ownsMap_made w prog 9 Rv
 obtain⟨C,A,z,a⟩:=i.lookup ed underlying71 (kQ w) (R:=Rv) (zd:=.held .nilIface) (zp:=[]) rfl (dj hk);have r:= @run_makeMap prog;rw[l7]at a;rcases Repm.look k l m n with⟨f,d⟩ | ⟨v,x,f,d,g⟩
 ·rw[f]at a
  simp only[Rv,Option.some.injEq,Prod.mk.injEq,DataW.held.injEq]at a;obtain⟨rfl,_⟩:=a;have p:∀w,(Instr.typeAssert .nilIface 59 71 true).run prog w=.ok (.tuple #[.map none,.bool false]) w:=fun w=>by kernel_rfl
  have h:=ae (show aq k l=[] by unfold aq;rw[d]);clear f d;go_enter func75,ntmps75;go_wp2;go_ret;refine⟨_,rfl,(Kp.refl _ w).alloc _, ?_⟩;rw[h.o];exact c _ (Or.inr ⟨Nat.le_refl _,by simp⟩)
 ·rw[f]at a
  simp only[Rv,Option.some.injEq,Prod.mk.injEq,DataW.held.injEq]at a;obtain⟨rfl,_⟩:=a;obtain⟨E,u,rfl⟩:=Rep.iface g
  cases hj:isO x with
  |false=>
   have p:=xR g hj;have h:=ae (show aq k l=[] by unfold aq;rw[d];cases x <;> simp_all[isO]);clear f d g;go_enter func75,ntmps75;go_wp2;go_ret;refine⟨_,rfl,(Kp.refl _ w).alloc _, ?_⟩;rw[h.o];exact c _ (Or.inr ⟨Nat.le_refl _,by simp⟩)
  |true=>
   cases x with
   |obj l'=>
    have s:=ae g;rw[Rep]at g;obtain⟨q,D,e,_⟩:=g;cases e
    have p:=vN (some q);have h:=ae (show aq k l=l' by unfold aq;rw[d]);clear f d r;go_enter func75,ntmps75;go_wp2;go_ret;refine⟨_,rfl,Kp.refl _ w, ?_⟩;rw[h.o];exact Rep.mono (fun k hk=>Or.inl hk) _ s.o
   |null=>cases hj
   |bool _=>cases hj
   |num _=>cases hj
   |str _=>cases hj
   |arr _=>cases hj
theorem DT(w:World)(F G:Nat→Prop)(l:List (Bs×J))(b:Nat)(k:Bs)(x:J)(xv:Value)(hk:k.length≤139000000000000)(hs:Srt l)(hl:l.length≤1000000)(ho:Ob w F l (.map (some b)))(hx:Rep w G x xv)(hF:∀k,F k→k < w.heap.size)(hG:∀k,G k→k < w.heap.size):
  Calls prog 76 #[.map (some b),.string ⟨k.toArray⟩,xv] w fun e w'=>e=.returned (.map (some w.heap.size))∧Kp (fun _=>False) w w'∧Ob w' (fun j=>F j∨G j∨j=w.heap.size) (aC k x l) (.map (some w.heap.size)):=by
 obtain⟨E,m,e,C,a,c⟩:=ho.shape;cases e
 obtain⟨z,u,rfl⟩:=Rep.iface hx;have D:=Repm.len c;have d:Srt m:=iV (Repm.keys l m c) hs;have h:=a.lt
 have p:∀(n:Int) (w:World),(Instr.makeMap 71 (some (.int .i64 n))).run prog w=.ok (.map (some w.heap.size)) (w.alloc (.map #[] 0)):=by
  intro n w;simp[Instr.makeMap,run_underlying underlying71,asInt,asIntOf,Result.andThen]
 have q:wrap64 ((m.length:Int)+1)=(m.length:Int)+1:=by unfold wrap64;omega
 go_enter func76,ntmps76;go_wp2_with (first | (at_len;refine wpList_len_own _ rfl _ 71 rfl 9 59 underlying71 Rv b m.length (dm m) rfl a ?_;rw[gm]) | fail)
 have s:Kp (fun _=>False) w (w.alloc (.map #[] 0)):=(Kp.refl _ w).alloc _;have t:(w.alloc (.map #[] 0)).ownsMap prog 9 Rv w.heap.size 0 (dm []):=by simpa[dm] using World.ownsMap_made w prog 9 Rv
 have v:(w.alloc (.map #[] 0)).ownsMap prog 9 Rv b m.length (dm m):=ay a (Below.heap_alloc _ _ _ h);have f:=ae (An c (An hx (An hF (An hG hs))));clear p q a c hx hF hG ho;refine (AnyX.maps_Copy Tryz.copy132 ed Rv w.heap.size b 0 m.length (dm []) (dm m) _ t v (by omega) (by rw[gm];unfold maxLen;omega)).mono ?_;rintro e w2 ⟨rfl,y,_,r⟩;rw[xp m d,gm]at y;have A:=ae (s.of_grown r (Nat.le_refl _));clear r s t v;have i:=dj hk;go_wp2_with (first | (at_mapUpdate;refine wpList_mapUpdate_own _ rfl _ _ _ 71 rfl 9 59 ed underlying71 Rv w.heap.size _ _ rfl y (by unfold maxLen;omega) _ _ _ rfl rfl i (.held (.iface z u)) [] rfl ?_;intro w3 o3 g3) | go_in)
 rw[iB k (.iface z u) m d]at o3;have g:=ae (A.o.of_grown g3 (Nat.le_refl _));have B:=ae (d9 o3);clear g3 o3;go_ret;refine⟨rfl,g.o, ?_⟩;unfold Ob;rw[Rep];refine⟨w.heap.size,_,rfl,Or.inr (Or.inr rfl),B.o, ?_⟩;refine Repm.ins ?_ _ _ ?_
 ·exact Rep.mono (fun j hj=>Or.inr (Or.inl hj)) _ (Rep.frame (w:=w) (fun j hj=>g.o.block j (f.o.2.2.2.1 j hj) (by simp)) _ f.o.2.1)
 ·exact Repm.mono (fun j hj=>Or.inl hj) _ (Repm.frame (w:=w) (fun j hj=>g.o.block j (f.o.2.2.1 j hj) (by simp)) _ f.o.1)
def Oz(w:World)(l:List (Bs×J))(b:Nat):Prop:=Ob w (fun j=>j < w.heap.size) l (.map (some b))
theorem Oz.up{w w':World}{l:List (Bs×J)}{b:Nat}(h:Oz w l b)(hk:Kp (fun _=>False) w w'):Oz w' l b:=
 Rep.mono (fun j hj=>Nat.lt_of_lt_of_le hj hk.size) _ (Rep.frame (w:=w) (fun j hj=>hk.block j hj (by simp)) _ h)
theorem gw(w:World)(l:List (Bs×J))(b:Nat)(k:Bs)(hk:k.length≤139000000000000)(ho:Oz w l b):
  Calls prog 75 #[.map (some b),.string ⟨k.toArray⟩] w fun e w'=>∃a,e=.returned (.map (some a))∧Kp (fun _=>False) w w'∧Oz w' (aq k l) a:=by
 refine (Bz w _ l b k hk ho).mono ?_;rintro e w' ⟨a,rfl,c,d⟩;exact⟨a,rfl,c,Rep.mono (fun j hj=>by have:=c.size;rcases hj with h | h <;> omega) _ d⟩
theorem uw(w:World)(l:List (Bs×J))(b:Nat)(k:Bs)(x:J)(xv:Value)(hk:k.length≤139000000000000)(hs:Srt l)(hl:l.length≤1000000)(ho:Oz w l b)(hx:Rep w (fun j=>j < w.heap.size) x xv):
  Calls prog 76 #[.map (some b),.string ⟨k.toArray⟩,xv] w fun e w'=>e=.returned (.map (some w.heap.size))∧Kp (fun _=>False) w w'∧Oz w' (aC k x l) w.heap.size:=by
 refine (DT w _ _ l b k x xv hk hs hl ho hx (fun _ h=>h) (fun _ h=>h)).mono ?_;rintro e w' ⟨rfl,a,c⟩;obtain⟨f,m,e,_,d,_⟩:=c.shape;cases e
 have:=d.lt;exact⟨rfl,a,Rep.mono (fun j hj=>by have:=a.size;rcases hj with h | h | h <;> omega) _ c⟩
theorem xD(w:World)(l:List (Bs×J))(b:Nat)(s:ByteArray)(hk:s.size≤139000000000000)(ho:Oz w l b):
  Calls prog 75 #[.map (some b),.string s] w fun e w'=>∃b2,e=.returned (.map (some b2))∧Kp (fun _=>False) w w'∧Oz w' (aq s.data.toList l) b2:=by
 have h:=gw w l b s.data.toList (by rw[kY];exact hk) ho;have e:(⟨s.data.toList.toArray⟩:ByteArray)=s:=by cases s;simp
 rw[e]at h;exact h
theorem rM(w:World)(l:List (Bs×J))(b:Nat)(s:ByteArray)(x:J)(xv:Value)(hk:s.size≤139000000000000)(hs:Srt l)(hl:l.length≤1000000)(ho:Oz w l b)(hx:Rep w (fun j=>j < w.heap.size) x xv):
  Calls prog 76 #[.map (some b),.string s,xv] w fun e w'=>e=.returned (.map (some w.heap.size))∧Kp (fun _=>False) w w'∧Oz w' (aC s.data.toList x l) w.heap.size:=by
 have h:=uw w l b s.data.toList x xv (by rw[kY];exact hk) hs hl ho hx;have e:(⟨s.data.toList.toArray⟩:ByteArray)=s:=by cases s;simp
 rw[e]at h;exact h
theorem zV(w:World)(F:Nat→Prop)(s:ByteArray):Rep w F (.str s.data.toList) (.iface 137 (.string s)):=by
 have e:(⟨s.data.toList.toArray⟩:ByteArray)=s:=by cases s;simp
 rw[Rep,e]
theorem hZ(k:Bs)(l:List (Bs×J)):bZ (aq k l)≤bZ l:=by
 unfold aq;split
 ·rename_i m hm
  have a:=(eq l).2 _ (fQ hm);simp only[cnt]at a;omega
 ·simp[bZ]
theorem jB{w:World}{b:Nat}{u v x:Value}{t:TypeId}(h:w.heap[b]? =some (.cells #[u,v,x] t)):w.cell? ⟨b,0,none⟩=some u∧w.cell? ⟨b,1,none⟩=some v∧w.cell? ⟨b,2,none⟩=some x:=by refine⟨?_, ?_, ?_⟩ <;> simp[World.cell?,h]
def SgR(W w:World)(l:List (Bs×J))(sv id sig:Bs)(e:Ending)(w':World):Prop:=Kp (fun _=>False) w w' ∧
 (((Lib.validD sv && Lib.validD id && Lib.validD sig)=true∧∃b,e=.returned (.tuple #[.map (some b),.nilIface])∧Oz w' (eM l sv id sig) b) ∨
  ((Lib.validD sv && Lib.validD id && Lib.validD sig)=false∧∃ev,e=.returned (.tuple #[.map none,ev])∧EV W w' ev 2∧∃t u,ev=.iface t u))
theorem sr{W w w':World}{l:List (Bs×J)}{sv id sig:Bs}{fb:Nat}(hk:Kp (fun _=>False) w w')(hv:(Lib.validD sv && Lib.validD id && Lib.validD sig)=false)(hf:ir W w' fb):
  SgR W w l sv id sig (.returned (.tuple #[.map none,.iface 116 (.pointer (some ⟨fb,0,none⟩))])) w':=
 ⟨hk,Or.inr ⟨hv,_,rfl,Or.inr (Or.inl ⟨rfl,fb,rfl,hf⟩),_,_,rfl⟩⟩
theorem ym(W:World)(hN:NG W)(w:World)(hW:Below W.heap.size W w)(l:List (Bs×J))(b:Nat)(ho:Oz w l b)(hwf:WF 6 (.obj l))(hc:bZ l≤1000000)(sv id sig:ByteArray)(h1:sv.size≤139000000000000)(h2:id.size≤139000000000000)(h3:sig.size≤139000000000000):
  Calls prog 43 #[.map (some b),.string sv,.string id,.string sig] w fun e w'=>SgR W w l sv.data.toList id.data.toList sig.data.toList e w':=by
 have D:Kp (fun _=>False) w (w.alloc (.cells #[.string sv,.string id,.string sig] 9)):=(Kp.refl _ w).alloc _;have c:=heap_alloc_new w (.cells #[.string sv,.string id,.string sig] 9);obtain⟨X,Y,Z⟩:=jB c;have bA:=am hW D;have p:=ae (An D c);clear D c;go_enter func43,ntmps43;go_wp2_with fail
 refine wp_loop_rounds 4 ?_;rw[rounds_succ];go_wp2_with fail
 refine (jE W hN.gl sv (by omega) _ bA).mono ?_;rintro e w1 ⟨d,⟨j,rfl⟩ | ⟨j,H,rfl,_,a⟩⟩;rotate_left
 ·have i:=ae (sr (l:=l) (p.o.1.trans d) (show (Lib.validD sv.data.toList && Lib.validD id.data.toList && Lib.validD sig.data.toList)=false by simp[j]) a)
  clear d j a;go_wp2;go_ret2
  exact i.o
 obtain⟨_,x,y⟩:=jB (d.heap p.o.2);have g:=am bA d;have h:=ae (An (p.o.1.trans d) (An (d.heap p.o.2) j));clear d j X Y Z bA;go_wp2_with fail
 rw[rounds_succ];go_wp2_with fail
 refine (jE W hN.gl id (by omega) _ g).mono ?_;rintro e w2 ⟨f,⟨v2,rfl⟩ | ⟨v2,H,rfl,_,a⟩⟩;rotate_left
 ·have i:=ae (sr (l:=l) (h.o.1.trans f) (show (Lib.validD sv.data.toList && Lib.validD id.data.toList && Lib.validD sig.data.toList)=false by simp[v2]) a)
  clear f v2 a;go_wp2;go_ret2
  exact i.o
 obtain⟨_,_,z⟩:=jB (f.heap h.o.2.1);have q:=am g f;have u:=ae (An (h.o.1.trans f) (An (f.heap h.o.2.1) v2));clear f v2 x y g;go_wp2_with fail
 rw[rounds_succ];go_wp2_with fail
 refine (jE W hN.gl sig (by omega) _ q).mono ?_;rintro e w3 ⟨r,⟨v3,rfl⟩ | ⟨v3,H,rfl,_,a⟩⟩;rotate_left
 ·have i:=ae (sr (l:=l) (u.o.1.trans r) (show (Lib.validD sv.data.toList && Lib.validD id.data.toList && Lib.validD sig.data.toList)=false by simp[v3]) a)
  clear r v3 a;go_wp2;go_ret2
  exact i.o
 have E:=ae (An (u.o.1.trans r) v3)
 have A:Hid ((Lib.validD sv.data.toList && Lib.validD id.data.toList && Lib.validD sig.data.toList)=true):=by
  show _=true
  rw[h.o.2.2,u.o.2.2,v3];rfl
 have G:=ae (ho.up E.o.1);clear r v3 z q ho;go_wp2_with fail
 rw[rounds_succ];go_wp2_with fail
 refine (show Calls prog 75 #[.map (some b),.string ⟨#[115,105,103,110,97,116,117,114,101,115]⟩] w3 _ from gw w3 l b kSig (by decide) G.o).mono ?_;rintro e w4 ⟨g,rfl,B,K⟩;have k:=ae (An (E.o.1.trans B) (An (G.o.up B) K));clear B K;go_wp2_with fail
 refine (xD w4 (aq kSig l) g sv h1 k.o.2.2).mono ?_;rintro e w5 ⟨q,rfl,s,L⟩;have m:=ae (An (k.o.1.trans s) (An (k.o.2.1.up s) (An (k.o.2.2.up s) L)));clear s L;have U:=hZ kSig l;have V:=hZ sv.data.toList (aq kSig l);have g1:=(eq l).1;have g2:=(eq (aq kSig l)).1;have g3:=(eq (aq sv.data.toList (aq kSig l))).1;have f1:=iw 4 kSig l hwf;have f2:=iw 3 sv.data.toList _ f1;rw[WF]at hwf f1 f2;have S:=ae (An hwf.1 (An f1.1 f2.1));have Q:l.length≤1000000:=by omega
 have R:(aq kSig l).length≤1000000:=by omega
 have T:(aq sv.data.toList (aq kSig l)).length≤1000000:=by omega
 clear U V g1 g2 g3 f1 f2 hwf hc;go_wp2_with fail
 refine (rM w5 _ q id (.str sig.data.toList) _ h2 S.o.2.2 T m.o.2.2.2 (zV _ _ sig)).mono ?_;rintro e w6 ⟨rfl,t,M⟩;have n:=ae (An (m.o.1.trans t) (An (m.o.2.1.up t) (An (m.o.2.2.1.up t) M)));clear t M;go_wp2_with fail
 refine (rM w6 _ g sv (.obj _) _ h1 S.o.2.1 R n.o.2.2.1 n.o.2.2.2).mono ?_;rintro e P ⟨rfl,C,N⟩;have v:=ae (An (n.o.1.trans C) (An (n.o.2.1.up C) N));clear C N;go_wp2_with fail
 refine (show Calls prog 76 #[.map (some b),.string ⟨#[115,105,103,110,97,116,117,114,101,115]⟩,_] P _ from uw P l b kSig (.obj _) _ (by decide) S.o.1 Q v.o.2.1 v.o.2.2).mono ?_;rintro e w8 ⟨rfl,I,O⟩;have F:=ae (An (v.o.1.trans I) O);clear I O;go_wp2;go_ret2
 exact⟨F.o.1,Or.inl ⟨A.o,_,rfl,F.o.2⟩⟩
def tot:List (Bs×J)→Nat
 | []=>0
 |p :: l=>(aD p).length+1+tot l
theorem sE:∀(l:List (Bs×J)),(aB (l.map aD)).length≤tot l∧tot l≤(aB (l.map aD)).length+1
 | []=>by simp[tot,aB]
 | [p]=>by simp only[tot,List.map_cons,List.map_nil,aB];omega
 |p :: q :: l=>by
  have h:=sE (q :: l);simp only[tot,List.map_cons,aB,List.length_append,List.length_cons]at h ⊢;omega
theorem mp(k:Bs)(x:J):∀(l:List (Bs×J)),tot (aC k x l)≤tot l+(aD (k,x)).length+1
 | []=>by simp only[aC,tot];omega
 | (a,y) :: l=>by
  have b:=mp k x l;rw[aC];split
  ·simp only[tot];omega
  ·split
   ·simp only[tot];omega
   ·simp only[tot];omega
theorem ix(l:List (Bs×J)):(cJ (.obj l)).length≤tot l+2∧tot l≤(cJ (.obj l)).length:=by
 have h:=sE l;rw[c7];simp only[List.length_cons,List.length_append,List.length_nil];omega
theorem pH(k:Bs):∀(l:List (Bs×J)),tot (bo k l)≤tot l
 | []=>by simp[bo,tot]
 | (a,y) :: l=>by
  have b:=pH k l;unfold bo at b ⊢;by_cases e:a=k
  ·simp only[e,decide_true,Bool.not_true,Bool.false_eq_true,not_false_iff,List.filter_cons_of_neg,tot]
   omega
  ·simp only[e,decide_false,Bool.not_false,List.filter_cons_of_pos,tot]
   omega
theorem qv(k:Bs)(l:List (Bs×J)):tot (aq k l)≤tot l:=by
 unfold aq;split
 ·rename_i m hm
  have a:=fQ hm
  have b:∀(l:List (Bs×J)) (p:Bs×J),p ∈ l→(aD p).length≤tot l:=by
   intro l
   induction l with
   |nil=>intro p hp;cases hp
   |cons q l ih=>
    intro p hp;rw[tot];rcases List.mem_cons.1 hp with rfl | hp
    ·omega
    ·have:=ih p hp;omega
  have c:=b l _ a;have d:=(ix m).2;simp only[aD,List.length_append,List.length_cons]at c;omega
 ·simp[tot]
theorem jW(k:Bs)(x:J):∀(l:List (Bs×J)),bZ (aC k x l)≤bZ l+1+cnt x
 | []=>by simp only[aC,bZ];omega
 | (a,y) :: l=>by
  have b:=jW k x l;rw[aC];split
  ·simp only[bZ];omega
  ·split
   ·simp only[bZ];omega
   ·simp only[bZ];omega
theorem DV(c:UInt8):(cB c).length≤6:=by
 unfold cB
 repeat' split
 all_goals simp
theorem l4(s:Bs):(cU s).length≤6*s.length+2:=by
 have h:∀(l:Bs),(l.flatMap cB).length≤6*l.length:=by
  intro l
  induction l with
  |nil=>simp
  |cons c l ih=>
   have:=DV c;simp only[List.flatMap_cons,List.length_append,List.length_cons];omega
 have:=h s;simp only[cU,List.length_cons,List.length_append,List.length_nil];omega
theorem eX{s:Bs}{l:List (Bs×J)}(h:aM s=.ok l):dk s=some (.obj l)∧s.length≤600:=by
 unfold aM eh at h;by_cases a:600 < s.length
 ·rw[if_pos a]at h
  cases h
 ·rw[if_neg a]at h
  cases hp:dk s with
  |none=>rw[hp]at h;cases h
  |some j=>
   rw[hp]at h
   cases j with
   |obj m=>simp at h;subst h;exact⟨rfl,by omega⟩
   |null=>cases h
   |bool _=>cases h
   |num _=>cases h
   |str _=>cases h
   |arr _=>cases h
end
section
open Go Go.RowKit Go.Maps
theorem tI{α:Type}(f:α→Bs)(p:α→Bool)(l:List α):bE f (l.filter p)≤bE f l:=by
 unfold bE
 induction l with
 |nil=>simp
 |cons a l ih=>
  rw[List.filter_cons];split
  ·simp only[List.map_cons,List.sum_cons]
   omega
  ·simp only[List.map_cons,List.sum_cons]
   omega
theorem nO(p:Bs×J→Bool)(l:List (Bs×J)):(aB ((l.filter p).map aD)).length≤(aB (l.map aD)).length:=by
 have b:=fP aD (l.filter p);have c:=fP aD l;have e:=tI aD p l;by_cases a:l.filter p=[]
 ·rw[a]
  simp[aB]
 ·have d:l≠[]:=by rintro rfl;exact a rfl
  rw[if_neg a]at b;rw[if_neg d]at c;omega
theorem jT(l:List (Bs×J)):(cJ (.obj (di l))).length≤(cJ (.obj l)).length:=by
 rw[c7,c7,di];have a:=nO (fun p=> !decide (p.1=fV)) (bo kSig l);have b:=nO (fun p=> !decide (p.1=kSig)) l;simp only[List.length_cons,List.length_append,List.length_nil];unfold bo at a ⊢;omega
theorem oK{w w0:World}{F:Nat→Prop}{l:List (Bs×J)}{b:Nat}(h:RR w F (.obj l) b)(hF:∀k,F k→k < w.heap.size)(hlen:(cJ (.obj l)).length≤1000000)(hk:Kp (fun _=>False) w w0):
  Calls prog 42 #[.pointer (some ⟨b,0,none⟩)] w0 fun e w'=>e=.returned (.string ⟨(aA l).toArray⟩)∧Kp (fun _=>False) w0 w':=by
 generalize n:J.obj l=j at h
 cases h with
 |obj x K L hFb h hK hL hG hH hN hx=>
  injection n with n
  have D:=vkp h hk;have s:=an hK hk (by simp);have t:=an hL hk (by simp);have o:=je ((ofL (x.map fun p=>(p.1,p.2.1))).map aD);have v:=mg _ hN;have g:=hlen;rw[n,c7]at hlen;simp only[List.length_cons,List.length_append,List.length_nil,List.length_map]at hlen o v;have y:x.length≤1000000:=by omega
  have f:ofL ((x.filter fun p=>ec (p.1,p.2.2)).map fun p=>(p.1,p.2.1))=di l:=by
   rw[di,n,←kI,←kI];congr 1
   rw[List.filter_filter];rw[List.filter_map];congr 1
   apply List.filter_congr;intro p _;simp only[ec,Function.comp];rw[Bool.and_comm]
  have m:(cJ (.obj (di l))).length≤1000000000:=by
   have I:=jT l;have E:(cJ (.obj l)).length≤1000000:=g;omega
  refine (Cm w0 b (x.map fun p=>(p.1,p.2.2)) K L D (by simpa[List.map_map,Function.comp_def] using s) (by simpa[List.map_map,Function.comp_def] using t) (by simpa using y) (.obj (di l)) ?_);intro B C w1 z d
  have u:(x.map fun p=>(p.1,p.2.2)).filter ec=(x.filter fun p=>ec (p.1,p.2.2)).map fun p=>(p.1,p.2.2):=by
   rw[List.filter_map];rfl
  rw[u]at d;have M:=hk.size;have H:=z.size
  have A:RR w1 (fun c=>c < w1.heap.size) (.obj (ofL ((x.filter fun p=>ec (p.1,p.2.2)).map fun p=>(p.1,p.2.1)))) w0.heap.size:=by
   refine .obj (x.filter fun p=>ec (p.1,p.2.2)) B C (ag d.blk) d.blk ?_ ?_ (fun k hk=>(d.rowK.lt k hk).2) (fun k hk=>(d.rowL.lt k hk).2) ?_ ?_
   ·have:=dN d.rowK
    simpa[List.map_map,Function.comp_def] using this
   ·have:=dN d.rowL
    simpa[List.map_map,Function.comp_def] using this
   ·have r:((x.filter fun p=>ec (p.1,p.2.2)).map fun p=>(p.1,p.2.1)).Sublist (x.map fun p=>(p.1,p.2.1)):=List.filter_sublist.map _
    unfold Nod at hN ⊢;exact (r.map (fun q:Bs×J=>q.1)).nodup hN
   ·intro a i c G
    exact (hx a i c (List.mem_filter.1 G).1).frame (fun k hk2=>(z.block k (by have:=hF k hk2;omega) (by simp)).trans (hk.block k (hF k hk2) (by simp))) (fun k hk2=>by have:=hF k hk2;omega)
  rw[f]at A;exact xX A m w1 (Kp.refl _ _)
 |_=>cases n
theorem vF(W:World)(hG:GL W)(s:ByteArray)(w:World)(ho:Below W.heap.size W w):
  Calls prog 17 #[.string s] w fun e w'=>e=.returned (.tuple #[.string ⟨(bU s.data.toList).1.toArray⟩,.int .i64 ((bU s.data.toList).2:Int)])∧Kp (fun _=>False) w w':=by
 go_enter func17,ntmps17;go_wp2_with fail
 refine (gN W hG s w ho).mono ?_;rintro e w1 ⟨f,⟨n,l,a,rfl⟩ | ⟨o,b,a,d,rfl,g⟩⟩
 ·have c:Hid (bU s.data.toList=([],n)):=by show _=_;unfold bU;rw[a];rfl
  have j:((n:Int) != 0)=true:=by simp;omega
  clear a;go_wp2;go_ret2
  exact⟨by rw[c.o];rfl,f⟩
 ·have c:Hid (bU s.data.toList=(aA o,0)):=by show _=_;unfold bU;rw[a];rfl
  have h:=ae (oK (w0:=w1) g (fun k hk=>hk.2) (by omega) (Kp.refl _ _));clear a g d;go_wp2_with fail
  refine h.o.mono ?_;rintro e w2 ⟨rfl,i⟩;go_wp2;go_ret2
  exact⟨by rw[c.o];rfl,f.trans i⟩
end
section
open Go.ChangeShapes Go.WideShapes Go.ChangeAt Go.RowKit
def kO(h:Int)(b:UInt8):Int:=bits .xor .u32 h ((b.toNat:Int) % 4294967296)*16777619 % 4294967296
def cA(h:Int)(l:List UInt8):Int:=l.foldl kO h
theorem qu(s:ByteArray)(k:Nat)(h:k < s.size):s.data.toList.take (k+1)=s.data.toList.take k ++[s[k]]:=by rw[List.take_succ_eq_append_getElem (by simpa using h)];rfl
theorem p9(h:Int)(l:List UInt8)(b:UInt8):cA h (l ++[b])=kO (cA h l) b:=by simp[cA]
theorem sB(h:Int)(b:UInt8):0≤kO h b∧kO h b < 4294967296:=by unfold kO;generalize bits .xor .u32 h ((b.toNat:Int) % 4294967296)=q;omega
theorem mc(l:List UInt8):∀h:Int,0≤h→h < 4294967296→0≤cA h l∧cA h l < 4294967296:=by
 induction l with
 |nil=>intro h a b;exact⟨a,b⟩
 |cons x l ih=>intro h _ _;exact ih _ (sB h x).1 (sB h x).2
theorem mH(h:Int)(l m:List UInt8):cA h (l ++m)=cA (cA h l) m:=by simp[cA]
theorem Cr{k:IntKind}{a b:Int}(h:a=b):Ending.returned (.int k a)=.returned (.int k b):=by rw[h]
theorem BR(h:Int)(s:ByteArray)(w:World)(hs:s.size≤1073741824):
  Calls prog 94 #[.int .u32 h,.string s] w fun e w'=>e=.returned (.int .u32 (cA h s.data.toList))∧Below w.heap.size w w':=by
 have d:=fun (w:World)=>run_bytes_of_string (P:=prog) w 9 124 5 s underlying9 underlying124 underlying5
 go_enter func94,ntmps94;go_wp2;go_loop [0,10] (fun a i=>∃k:Nat,k≤s.size∧i=.int .i64 k∧a=.int .u32 (cA h (s.data.toList.take k))) (fun _ i=>s.size - (intOf i).toNat)
 case atStart=>exact⟨0,Nat.zero_le _,rfl,rfl⟩
 case round=>
  obtain⟨k,g,rfl,rfl⟩:=hrel;by_cases b:k < s.size
  ·have f:(w.alloc (Obj.cells (bytesRow s (grownCap w s.size 0 5)) 5 ((bytesRow s (grownCap w s.size 0 5)).size,(bytesRow s (grownCap w s.size 0 5)).size+1))).cell? ⟨w.heap.size,k,none⟩=some (.int .u8 (s[k].toNat:Int)):=by
    rw[World.cell?_alloc_mark,bytesRow_at s _ k b];rfl
   have c:Hid (cA h (s.data.toList.take (k+1))=kO (cA h (s.data.toList.take k)) s[k]):=by rw[qu s k b];exact p9 _ _ _
   clear d;generalize cA h (s.data.toList.take k)=m at c ⊢;go_wp2;refine⟨⟨k+1,by omega,by go_num, ?_⟩,by simp[intOf];omega⟩;rw[c.o];rfl
  ·clear d
   go_wp2;go_ret;exact⟨Cr (by rw[List.take_of_length_le (by simp;omega)]),((Below.refl _ _).alloc (Nat.le_refl _) _).drew⟩
def shN(h:Int):Nat→Int
 |0=>h
 |k+1=>shN h k*16 % 4294967296
theorem x9(h:Int)(h0:0≤h)(h1:h < 4294967296):∀k,0≤shN h k∧shN h k < 4294967296
 |0=>⟨h0,h1⟩
 |k+1=>by unfold shN;generalize shN h k=q;omega
def gU(m:Int):UInt8:=[(48:UInt8),49,50,51,52,53,54,55,56,57,97,98,99,100,101,102].getD (m / 268435456).toNat 0
theorem BE(m:Int)(h:(m / 268435456).toNat < (ByteArray.mk #[48,49,50,51,52,53,54,55,56,57,97,98,99,100,101,102]).size):
  (ByteArray.mk #[48,49,50,51,52,53,54,55,56,57,97,98,99,100,101,102])[(m / 268435456).toNat]'h=gU m:=by
 have a:(m / 268435456).toNat < 16:=h;unfold gU;rw[List.getD_eq_getElem?_getD,List.getElem?_eq_getElem a];rfl
def gb(h:Int):Nat→Array Value
 |0=> #[.int .u8 0,.int .u8 0,.int .u8 0,.int .u8 0,.int .u8 0,.int .u8 0,.int .u8 0,.int .u8 0]
 |k+1=>(gb h k).setIfInBounds k (.int .u8 ((gU (shN h k)).toNat:Int))
theorem lP(h:Int):∀k,(gb h k).size=8
 |0=>rfl
 |k+1=>by unfold gb;rw[Array.size_setIfInBounds];exact lP h k
theorem uL(h:Int):∀k,k≤8→∀j,j < k→(gb h k)[j]? =some (.int .u8 ((gU (shN h j)).toNat:Int))
 |0,_,j,hj=>by omega
 |k+1,hk,j,hj=>by
  unfold gb;rw[Array.getElem?_setIfInBounds];by_cases e:k=j
  ·subst e;rw[if_pos rfl,if_pos (by rw[lP];omega)]
  ·rw[if_neg e];exact uL h k (by omega) j (by omega)
def iD(h:Int):List UInt8:=(List.range 8).map fun k=>gU (shN h k)
theorem qA(h:Int)(w:World)(h0:0≤h)(h1:h < 4294967296):
  Calls prog 95 #[.int .u32 h] w fun e w'=>e=.returned (.string ⟨(iD h).toArray⟩)∧Below w.heap.size w w':=by
 have b:(convert 124 9 (.slice (some ⟨w.heap.size,0,none⟩) 8 8)).run prog (w.alloc (.cells (gb h 8) 277))=.ok (.string ⟨(iD h).toArray⟩) (w.alloc (.cells (gb h 8) 277)):=by
  refine run_convert_bytes_back (P:=prog) (w.alloc (.cells (gb h 8) 277)) 124 9 5 ⟨w.heap.size,0,none⟩ 8 (iD h) underlying124 underlying5 underlying9 ?_;intro j n;have d:j < 8:=by simpa[iD] using n
  have e:(w.alloc (.cells (gb h 8) 277)).cell? ⟨w.heap.size,j,none⟩=(gb h 8)[j]? :=World.cell?_alloc_mark w _ _ _ _;have g:Addr.add ⟨w.heap.size,0,none⟩ j=⟨w.heap.size,j,none⟩:=by cases j <;> simp[Addr.add]
  rw[g,e,uL h 8 (Nat.le_refl _) j d];simp[iD]
 go_enter func95,ntmps95;go_wp2;go_loopw [0,5] (fun a i wr=>∃k:Nat,k≤8∧i=.int .i64 k∧a=.int .u32 (shN h k)∧wr=w.alloc (.cells (gb h k) 277)) (fun _ i _=>8 - (intOf i).toNat)
 case atStart=>exact⟨0,Nat.zero_le _,rfl,rfl,rfl⟩
 case round=>
  obtain⟨k,r,rfl,rfl,rfl⟩:=hrel;by_cases p:k < 8
  ·have l:=x9 h h0 h1 k
   have q:=lP h k;have f:Hid (shN h (k+1)=shN h k*16 % 4294967296):=rfl;have c:Hid (gb h (k+1)=(gb h k).setIfInBounds k (.int .u8 ((gU (shN h k)).toNat:Int))):=rfl;clear b;generalize shN h k=m at l f c ⊢;generalize gb h k=C at q c ⊢;go_wp2;refine⟨⟨k+1,by omega,by go_num,by rw[f.o], ?_⟩,by simp[intOf];omega⟩;rw[c.o,BE]
  ·obtain rfl:k=8:=by omega
   go_wp2;go_ret;exact⟨rfl,(Below.refl _ _).alloc (Nat.le_refl _) _⟩
theorem Ei(m:Int)(h:0≤m)(h':m < 4294967296):(ByteArray.mk #[48,49,50,51,52,53,54,55,56,57,97,98,99,100,101,102]).extract (m / 268435456).toNat ((m / 268435456).toNat+1)=⟨#[gU m]⟩:=by
 have a:(m / 268435456).toNat < 16:=by omega
 unfold gU;generalize (m / 268435456).toNat=n at *;have:∀n < 16,(ByteArray.mk #[48,49,50,51,52,53,54,55,56,57,97,98,99,100,101,102]).extract n (n+1)=⟨#[[(48:UInt8),49,50,51,52,53,54,55,56,57,97,98,99,100,101,102].getD n 0]⟩:=by decide
 exact this n a
def kJ(h:Int)(k:Nat):ByteArray:=⟨((List.range k).map fun j=>gU (shN h j)).toArray⟩
theorem xB(h:Int)(k:Nat):kJ h (k+1)=kJ h k ++⟨#[gU (shN h k)]⟩:=by
 apply ByteArray.ext;simp[kJ,List.range_succ]
theorem rZ(a b r:ByteArray)(w:World)(ha:a.size≤1073741824)(hb:b.size≤1073741824)
  (HR:Hid (r=⟨(iD (cA 2166136261 (a ++⟨#[10]⟩ ++b).data.toList)).toArray⟩)) :
  Calls prog 49 #[.string a,.string b] w fun e w'=>e=.returned (.string r)∧w'=w:=by
 have p:(a ++⟨#[10]⟩ ++b).size≤2147483649:=by rw[ByteArray.size_append,ByteArray.size_append];show a.size+1+b.size≤_;omega
 go_enter func49,ntmps49;go_wp2;generalize a ++ByteArray.mk #[10] ++b=s at p HR ⊢;go_loop [5,7] (fun x i=>∃k:Nat,k≤s.size∧i=.int .i64 k∧x=.int .u32 (cA 2166136261 (s.data.toList.take k))) (fun _ i=>s.size - (intOf i).toNat)
 case atStart=>exact⟨0,Nat.zero_le _,rfl,rfl⟩
 case round=>
  obtain⟨k,y,rfl,rfl⟩:=hrel;by_cases l:k < s.size
  ·have f:Hid (cA 2166136261 (s.data.toList.take (k+1))=kO (cA 2166136261 (s.data.toList.take k)) s[k]):=by
    rw[qu s k l];exact p9 _ _ _
   generalize cA 2166136261 (s.data.toList.take k)=m at f ⊢;go_wp2;refine⟨⟨k+1,by omega,by go_num, ?_⟩,by simp[intOf];omega⟩;rw[f.o];rfl
  ·have t:s.data.toList.take k=s.data.toList:=List.take_of_length_le (by simp;omega)
   rw[t];have c:=mc s.data.toList 2166136261 (by omega) (by omega);clear t;generalize cA 2166136261 s.data.toList=h at c HR ⊢;go_wp2;go_loop [5,9,10] (fun x o i=>∃k:Nat,k≤8∧i=.int .i64 k∧x=.int .u32 (shN h k)∧o=.string (kJ h k)) (fun _ _ i=>8 - (intOf i).toNat)
   case atStart=>exact⟨0,Nat.zero_le _,rfl,rfl,rfl⟩
   case round=>
    obtain⟨j,v,rfl,rfl,rfl⟩:=hrel;by_cases u:j < 8
    ·have d:=x9 h c.1 c.2 j
     have q:Hid ((ByteArray.mk #[48,49,50,51,52,53,54,55,56,57,97,98,99,100,101,102]).extract (shN h j / 268435456).toNat (shN h j / 268435456+1).toNat=⟨#[gU (shN h j)]⟩):=by
      have:=Ei (shN h j) d.1 d.2;have e:(shN h j / 268435456+1).toNat=(shN h j / 268435456).toNat+1:=by omega
      rw[e];exact this
     have f:Hid (shN h (j+1)=shN h j*16 % 4294967296):=rfl;have g:Hid (kJ h (j+1)=kJ h j ++⟨#[gU (shN h j)]⟩):=xB h j;have n:(kJ h j).size=j:=by simp[kJ,ByteArray.size]
     generalize shN h j=m at d q f g ⊢;generalize kJ h j=o at g n ⊢;go_wp2;refine⟨⟨j+1,by omega,by go_num,by rw[f.o], ?_⟩,by simp[intOf];omega⟩;rw[g.o,q.o]
    ·obtain rfl:j=8:=by omega
     go_wp2;go_ret;exact⟨by rw[HR.o];rfl,rfl⟩
theorem gI(a b:ByteArray)(w:World)(ha:a.size≤1073741824)(hb:b.size≤1073741824):
  Calls prog 49 #[.string a,.string b] w fun e w'=>e=.returned (.string ⟨(iD (cA 2166136261 (a ++⟨#[10]⟩ ++b).data.toList)).toArray⟩)∧w'=w:=
 rZ a b _ w ha hb rfl
theorem x7(a b:ByteArray)(mf:Int→ByteArray→Int)(hf:Int→ByteArray)(w:World)(ha:a.size≤1073741824)(hb:b.size≤1073741824)
  (cm:∀h s wx,s.size≤1073741824→Calls prog 94 #[.int .u32 h,.string s] wx fun e w'=>e=.returned (.int .u32 (mf h s))∧Below wx.heap.size wx w')
  (ch:∀wx,Calls prog 95 #[.int .u32 (mf (mf (mf 2166136261 a) ⟨#[10]⟩) b)] wx fun e w'=>e=.returned (.string (hf (mf (mf (mf 2166136261 a) ⟨#[10]⟩) b)))∧Below wx.heap.size wx w') :
  Calls prog 52 #[.string a,.string b] w fun e w'=>e=.returned (.string (hf (mf (mf (mf 2166136261 a) ⟨#[10]⟩) b)))∧Below w.heap.size w w':=by
 have c:(ByteArray.mk #[10]).size≤1073741824:=by decide
 go_enter func52,ntmps52;go_wp2_with (first | (go_at_call 94;refine (cm _ _ _ ?_).mono ?_;assumption;rintro e w1 ⟨rfl,hb1⟩) | (go_at_call 95;refine (ch _).mono ?_;rintro e w4 ⟨rfl,hb4⟩))
 go_ret;rename_i x1 k1 x2 k2;exact⟨rfl,k1.trans ((k2.mono (k1.size)).trans ((hb1.mono (Nat.le_trans k1.size k2.size)).trans (hb4.mono (Nat.le_trans k1.size (Nat.le_trans k2.size hb1.size)))))⟩
theorem vI(a b:ByteArray):cA (cA (cA 2166136261 a.data.toList) [10]) b.data.toList=cA 2166136261 (a ++⟨#[10]⟩ ++b).data.toList:=by rw[show (a ++(ByteArray.mk #[10]) ++b).data.toList=a.data.toList ++[10] ++b.data.toList by simp,mH,mH]
def cQ(a b:ByteArray):ByteArray:=⟨(iD (cA 2166136261 (a ++⟨#[10]⟩ ++b).data.toList)).toArray⟩
theorem Ab(a b:ByteArray):cQ a b=⟨(iD (cA (cA (cA 2166136261 a.data.toList) [10]) b.data.toList)).toArray⟩:=by unfold cQ;rw[vI]
theorem nC(a b:ByteArray)(w:World)(ha:a.size≤1073741824)(hb:b.size≤1073741824):
  Calls prog 52 #[.string a,.string b] w fun e w'=>e=.returned (.string (cQ a b))∧Below w.heap.size w w':=by
 have c:=mc a.data.toList 2166136261 (by omega) (by omega);have d:=mc [10] _ c.1 c.2;have f:=mc b.data.toList _ d.1 d.2;rw[Ab];exact x7 a b (fun h s=>cA h s.data.toList) (fun h=>⟨(iD h).toArray⟩) w ha hb (fun h s wx hs=>BR h s wx hs) (fun wx=>qA _ wx f.1 f.2)
end
end Go.Proofs.YtocligpfmfmihaaGreatDoor
