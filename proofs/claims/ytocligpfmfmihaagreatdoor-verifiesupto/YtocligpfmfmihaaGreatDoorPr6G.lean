import Derived.Test.YtocligpfmfmihaaGreatDoorPr5G
import Derived.Shelf.SlSortCmp.WholeK
import Derived.Shelf.Spec.SlicesGrow
set_option maxHeartbeats 4000000
set_option maxRecDepth 20000
namespace Go.Proofs.YtocligpfmfmihaaGreatDoor
open Go.Proofs.Tryz
section
open Go Go.RowKit Go.Maps Go.WideMaps Go.Sort Go.Shelf
attribute [local go_sem] Oper.semAt_some
def inF(u:Int)(l:List (Bs×J)):Option (List Ky):=(dt (ai iG l)).bind fun m=>if 1≤m.length∧m.length≤4 then aI false u m else none
theorem mh(l:List (Bs×J)):fW l=match ai gY l with | none=>some [] | some j=>(dt (some j)).bind (aI true 0):=by
 unfold fW
 cases h:ai gY l with
 |none=>rfl
 |some j=>cases j <;> rfl
theorem oZ(l:List (Bs×J)):cw l=(bs (ai lB l)).bind fun s=>(cC (ai lC l)).bind fun u=>(inF u l).bind fun a=>(fW l).bind fun b=>(bJ a b).map fun ks=>(s,u,ks):=by
 unfold cw inF
 cases bs (ai lB l) with
 |none=>rfl
 |some s=>
  cases cC (ai lC l) with
  |none=>rfl
  |some u=>
   simp only[Option.bind_some]
   cases ai iG l with
   |none=>rfl
   |some j=>
    cases j with
    |obj m=>
     simp only[dt,Option.bind_some];by_cases h:1≤m.length∧m.length≤4
     ·rw[if_pos h,if_pos h]
     ·rw[if_neg h,if_neg h];rfl
    |_=>rfl
theorem Em(W:World)(hN:NG2 W)(ub:Nat)(till:Int):yq W 176 #[.pointer (some ⟨ub,0,none⟩)] (fun w=>w.heap[ub]? =some (.cells #[.int .i64 till] 2)) false till:=
 fun w m b id hW hP ho=>za W hN w hW m b ub id till ho hP
theorem En(W:World)(hN:NG2 W):yq W 177 #[] (fun _=>True) true 0:=
 fun w m b id hW _ ho=>Dz W hN w hW m b id 0 ho
theorem xl{W w0 w:World}{s:ByteArray}{ev:Value}(hk:Kp (fun _=>False) w0 w)(h:Ech W w ev):KuR W w0 none (.returned (.tuple #[.slice none 0 0,.iface 250 (.pointer (some ⟨w.heap.size,0,none⟩))])) (w.alloc (.cells #[.string s,ev] 252)).drew:=
 ⟨(hk.alloc _).drew,_,rfl,uc h⟩
theorem tp(W:World)(hN:NG2 W)(w:World)(hW:Below W.heap.size W w)(l:List (Bs×J))(b:Nat)(till:Int)(ho:Oz w l b)
  (hch:∀m,dt (ai iG l)=some m→Srt m∧m.length≤1000∧∀p ∈ m,p.1.length≤1000) :
  Calls prog 135 #[.map (some b),.int .i64 till] w fun e w'=>KuR W w (inF till l) e w':=by
 obtain⟨a,A,hp⟩:=hN.sml 16 (by simp);have n:Kp (fun _=>False) w (w.alloc (.cells #[.int .i64 till] 2)):=(Kp.refl _ _).alloc _;have x:=heap_alloc_new w (.cells #[.int .i64 till] 2);have t:=ae (mE W hN _ (am hW n) l b iG (by decide) (ho.up n) 176 #[.pointer (some ⟨w.heap.size,0,none⟩)] (fun w'=>w'.heap[w.heap.size]? =some (.cells #[.int .i64 till] 2)) false till (Em W hN w.heap.size till) (enters_of func176 (by kernel_rfl) rfl) (fun _ _ h k=>k.heap h) x hch);clear ho x;go_enter func135,ntmps135;go_wp2_with fail
 generalize (w.alloc (.cells #[.int .i64 till] 2))=w0 at *;refine t.o.mono ?_;rintro e w1 ⟨s,f⟩;have D:=Below.cl (am hW (n.trans s)) A;have r:Hid (Ech W w1 (ax a)):=Ech.base a hp;unfold ax at D r;have j:=ae (n.trans s);have E:=n.size;clear t s A hp hch;have c:inF till l=(dt (ai iG l)).bind fun m=>if 1≤m.length∧m.length≤4 then aI false till m else none:=rfl
 cases hof:dt (ai iG l) with
 |none=>
  rw[hof]at f c;obtain⟨q,rfl,g⟩:=f;obtain⟨G,u,rfl⟩:=g.iface;have d:=ae (An g c);clear g hof c;go_wp2;go_ret2
  rw[d.o.2];exact⟨j.o,_,rfl,d.o.1⟩
 |some m=>
  rw[hof]at f c;replace f:match aI false till m with | some ks=>∃v,e=.returned (.tuple #[v,.nilIface])∧w1.ownsRow w0.heap.size 35 4 v ks.length (ks.flatMap kyC) | none=>∃q,e=.returned (.tuple #[.slice none 0 0,q])∧Ech W w1 q:=f
  replace c:inF till l=if 1≤m.length∧m.length≤4 then aI false till m else none:=c
  cases hkf:aI false till m with
  |none=>
   rw[hkf]at f c;obtain⟨q,rfl,g⟩:=f;obtain⟨G,u,rfl⟩:=g.iface;have d:=ae (An g (c.trans (ite_self _)));clear g hof c hkf;go_wp2;go_ret2
   rw[d.o.2];exact⟨j.o,_,rfl,d.o.1⟩
  |some ks=>
   rw[hkf]at f c;obtain⟨v,rfl,row⟩:=f
   have B:ks.length=m.length:=by
    have:=congrArg List.length (de hkf).1;simpa using this
   rw[←B]at c;obtain⟨H,I,rfl,_⟩:=aJ row;have C:=ae row;clear row hof hkf B;by_cases y:1≤ks.length
   ·have F:decide ((ks.length:Int) < 1)=false:=by simp;omega
    by_cases z:ks.length≤4
    ·have t2:decide ((ks.length:Int) > 4)=false:=by simp;omega
     rw[if_pos ⟨y,z⟩]at c;have i:=ae c;clear c;go_wp2;go_ret2
     rw[i.o];exact⟨j.o,_,rfl,cr (by omega) C.o⟩
    ·have t2:decide ((ks.length:Int) > 4)=true:=by simp;omega
     rw[if_neg (fun h=>z h.2)]at c;have i:=ae c;clear c;go_wp2;go_region
     go_wp2;go_ret2
     rw[i.o];exact xl j.o r.o
   ·have F:decide ((ks.length:Int) < 1)=true:=by simp;omega
    rw[if_neg (fun h=>y h.1)]at c;have i:=ae c;clear c;go_wp2;go_region
    go_wp2;go_ret2
    rw[i.o];exact xl j.o r.o
theorem AD(w:World)(l:List (Bs×J))(b:Nat)(k:Bs)(hk:k.length≤139000000000000)(ho:Oz w l b):
  ∃v,(Instr.lookup 71 (.map (some b)) (.string ⟨k.toArray⟩) true).run prog w=.ok (.tuple #[v,.bool (ai k l).isSome]) w:=by
 obtain⟨o,m,e,h,c,d⟩:=ho.shape;cases e
 obtain⟨n,j,a,i⟩:=c.look_ok ed underlying71 (kQ w) (R:=Rv) (zd:=.held .nilIface) (zp:=[]) rfl (dj hk);refine⟨n, ?_⟩;rw[qP]at a;rcases Repm.look k l m d with⟨f,g⟩ | ⟨v,x,f,g,p⟩
 ·rw[f]at a
  rw[g];exact a
 ·rw[f]at a
  rw[g];exact a
theorem xy(W:World)(hN:NG2 W)(w:World)(hW:Below W.heap.size W w)(l:List (Bs×J))(b:Nat)(ho:Oz w l b)
  (hch:∀m,dt (ai gY l)=some m→Srt m∧m.length≤1000∧∀p ∈ m,p.1.length≤1000) :
  Calls prog 136 #[.map (some b)] w fun e w'=>KuR W w (fW l) e w':=by
 obtain⟨v,a⟩:=AD w l b gY (by decide) ho;have h:=ae (mE W hN w hW l b gY (by decide) ho 177 #[] (fun _=>True) true 0 (En W hN) (enters_of func177 (by kernel_rfl) rfl) (fun _ _ _ _=>trivial) trivial hch);have c:=mh l;clear ho hch
 cases hl:ai gY l with
 |none=>
  rw[hl]at a c;replace a:(Instr.lookup 71 (.map (some b)) (.string ⟨#[111,108,100,95,118,101,114,105,102,121,95,107,101,121,115]⟩) true).run prog w=.ok (.tuple #[v,.bool false]) w:=a;have f:=ae c;clear c hl;go_enter func136,ntmps136;go_wp2;go_ret2
  rw[f.o];exact⟨Kp.refl _ _,_,rfl,World.ownsRow_nil _ _ _ _⟩
 |some j=>
  rw[hl]at a c h;replace a:(Instr.lookup 71 (.map (some b)) (.string ⟨#[111,108,100,95,118,101,114,105,102,121,95,107,101,121,115]⟩) true).run prog w=.ok (.tuple #[v,.bool true]) w:=a;have f:=ae c;clear c hl;go_enter func136,ntmps136;go_wp2_with fail
  refine h.o.mono ?_;rintro e w1 ⟨q,g⟩;have k:=ae q;clear h q
  cases hb:(dt (some j)).bind (aI true 0) with
  |none=>
   rw[hb]at g;obtain⟨r,rfl,i⟩:=g;obtain⟨s,u,rfl⟩:=i.iface;have d:=ae (An i hb);clear i hb;go_wp2;go_ret2
   rw[f.o];show KuR W w ((dt (some j)).bind (aI true 0)) _ _
   rw[d.o.2];exact⟨k.o,_,rfl,d.o.1⟩
  |some ks=>
   rw[hb]at g;obtain⟨v,rfl,row⟩:=g;have n:=ae (An row hb);clear row hb;go_wp2;go_ret2
   rw[f.o];show KuR W w ((dt (some j)).bind (aI true 0)) _ _
   rw[n.o.2];exact⟨k.o,_,rfl,n.o.1⟩
end
section
open Go Go.RowKit Go.Sort Go.Shelf
theorem nQ(d:Array Ky)[Inhabited Ky]:(flatK kyC 4 d).toList=d.toList.flatMap kyC:=by
 refine List.ext_getElem? ?_;intro t;by_cases e:t < d.size*4
 ·have b:(flatK kyC 4 d).toList[t]? =some ((kyC d[t / 4]!)[t % 4]!):=by
   rw[Array.getElem?_toList,Array.getElem?_eq_getElem (by simpa using e)];simp[flatK]
  have c:t / 4 < d.size:=by omega
  have a:=ug d.toList (t / 4) d[t / 4]! (by simp[c]) (t % 4) (by omega);rw[show t / 4*4+t % 4=t by omega]at a;rw[b,a];have:t % 4 < (kyC d[t / 4]!).length:=by simp[kyC];omega
  rw[List.getElem?_eq_getElem this];simp[this]
 ·rw[List.getElem?_eq_none (by simp;omega),List.getElem?_eq_none (by rw[jM];simp;omega)]
theorem ya{α:Type}[Inhabited α](enc:α→List Value)(k:Nat)(w:World)(g m:Nat)(d:Array α)(os:Array Obj)(j:Nat)(hj:j < w.heap.size)(hne:j≠g):(sortWorldK enc k w g 0 m d os).heap[j]? =w.heap[j]? :=by
 unfold sortWorldK grow putRowK putRow mapBlock;simp only[heap_ahead];rw[Array.getElem?_append_left (by simpa using hj)];simp[Array.getElem?_modify,Ne.symm hne]
theorem CJ{α:Type}[Inhabited α](enc:α→List Value)(k:Nat)(w:World)(g m:Nat)(d:Array α)(os:Array Obj):Kp (· =g) w (sortWorldK enc k w g 0 m d os):=by
 refine⟨rfl,rfl,rfl, ?_,fun i hi hne=>ya enc k w g m d os i hi hne⟩;unfold sortWorldK grow putRowK putRow mapBlock;simp
theorem Af{w:World}{B g n cap:Nat}{xs:List Value}(m:Nat)(d:Array Ky)[Inhabited Ky](os:Array Obj)(h:w.ownsRow B 35 4 (.slice (some ⟨g,0,none⟩) n cap) n xs)(hd:d.size=n):
  (sortWorldK kyC 4 w g 0 m d os).ownsRow B 35 4 (.slice (some ⟨g,0,none⟩) n cap) n (d.toList.flatMap kyC):=by
 refine⟨by rw[jM];simp[hd],Or.inr ?_⟩;rcases h.2 with⟨a,_⟩ | ⟨u,l,b,a,q,o,c,j,e,r⟩
 ·injection a with a;cases a
 ·injection a with a _ p
  injection a with a
  injection a with a
  subst a p;have s:=ag o;refine⟨g,cap,putCells id 0 (flatK kyC 4 d) b,rfl,q, ?_,c,j,by simpa[putCells] using e, ?_⟩
  ·unfold sortWorldK grow putRowK putRow mapBlock
   simp only[heap_ahead];rw[Array.getElem?_append_left (by simpa using s)];simp[Array.getElem?_modify,o,onCells]
  ·rw[←nQ]
   refine List.ext_getElem? ?_;intro t;rw[List.getElem?_take];by_cases i:t < n*4
   ·rw[if_pos i]
    have f:(flatK kyC 4 d).size=n*4:=by simp[hd]
    have k:t < b.size:=by rw[e];exact Nat.lt_of_lt_of_le i (Nat.mul_le_mul_right 4 c)
    simp only[Array.getElem?_toList,putCells,Array.getElem?_mapIdx];rw[Array.getElem?_eq_getElem k,Array.getElem?_eq_getElem (by rw[f];exact i)];simp[f,i]
   ·rw[if_neg i,List.getElem?_eq_none (by simp[hd];omega)]
theorem xU{w:World}{B g n cap:Nat}(d:Array Ky)[Inhabited Ky](h:w.ownsRow B 35 4 (.slice (some ⟨g,0,none⟩) n cap) n (d.toList.flatMap kyC))(hd:d.size=n):HoldsK kyC 4 w g 0 d:=by
 rcases id h.2 with⟨a,_⟩ | ⟨s,c,i,a,t,p,k,l,m,o⟩
 ·injection a with a;cases a
 ·injection a with a _ r
  injection a with a
  injection a with a
  subst a;intro j f;have q:j < n*4:=by simpa[hd] using f
  have b:=h.cells (g:=g) rfl j ((flatK kyC 4 d)[j]!) (by
    rw[←nQ,Array.getElem?_toList,getElem!_def,Array.getElem?_eq_getElem f])
  refine⟨?_, ?_⟩
  ·unfold Addr.add at b
   by_cases e:j=0
   ·subst e;simpa using b
   ·simpa[e] using b
  simp[World.frozen?,p]
theorem nM(a b:Bs):Lib.compareBytes a b < 0↔a < b:=by
 induction a generalizing b with
 |nil=>cases b <;> simp[Lib.compareBytes]
 |cons x a ih=>
  cases b with
  |nil=>simp[Lib.compareBytes]
  |cons y b=>
   simp only[Lib.compareBytes,List.cons_lt_cons_iff];by_cases c:x < y
   ·simp[c]
   ·by_cases d:y < x
    ·have e:x≠y:=by rintro rfl;exact c d
     simp[c,d,e]
    ·have e:x=y:=UInt8.le_antisymm (UInt8.not_lt.1 d) (UInt8.not_lt.1 c)
     subst e;simp[c,ih]
def ku(x y:Ky):Int:=Lib.compareBytes x.id y.id
theorem Du:SWO (ltOf ku):=by
 refine⟨?_, ?_, ?_⟩
 ·intro x
  simp only[ltOf,ku,nM,decide_eq_false_iff_not];exact dz _
 ·intro x y z a b
  simp only[ltOf,ku,nM,decide_eq_true_eq]at *;exact List.lt_trans a b
 ·intro x y z a b
  simp only[ltOf,ku,nM,decide_eq_false_iff_not]at *;rw[List.not_lt]at *;exact List.le_trans b a
theorem zi{a b L:List Ky}(hp:L.Perm (a ++b))(hs:L.Pairwise fun x y=>x.id < y.id):bJ a b=some L:=by
 have g:(L.map (·.id)).Nodup:=by
  unfold List.Nodup;rw[List.pairwise_map];exact hs.imp fun {x y} h e=>by rw[e]at h;exact dz _ h
 have c:((a ++b).map (·.id)).Nodup:=(hp.map (·.id)).nodup_iff.1 g;unfold bJ;rw[if_pos c]
 have f:ofL ((a ++b).map fun k=>(k.id,k))=ofL (L.map fun k=>(k.id,k)):=rG (hp.symm.map _) (by
   unfold Nod;rw[List.map_map];exact c)
 have d:Srt (L.map fun k=>(k.id,k)):=by
  unfold Srt;rw[List.pairwise_map];exact hs
 rw[f,uv _ d,List.map_map];congr 1
 exact List.map_id' L
theorem BN{a b L:List Ky}(hp:L.Perm (a ++b)){i j:Nat}{x y:Ky}(hij:i < j)(c:L[i]? =some x)(d:L[j]? =some y)(he:x.id=y.id):bJ a b=none:=by
 unfold bJ;rw[if_neg ?_];intro l;have g:(L.map (·.id)).Nodup:=(hp.map (·.id)).nodup_iff.2 l;have k:=List.pairwise_iff_getElem.1 g
 have e:i < L.length:=by
  rcases Nat.lt_or_ge i L.length with h | h
  ·exact h
  ·rw[List.getElem?_eq_none h]at c;cases c
 have f:j < L.length:=by
  rcases Nat.lt_or_ge j L.length with h | h
  ·exact h
  ·rw[List.getElem?_eq_none h]at d;cases d
 rw[List.getElem?_eq_getElem e]at c;rw[List.getElem?_eq_getElem f]at d;injection c with c
 injection d with d
 have:=k i j (by simpa using e) (by simpa using f) hij;simp only[List.getElem_map,c,d]at this;exact this he
theorem yc{L:List Ky}(hs:∀(i j:Nat),i < j→∀(x y:Ky),L[i]? =some x→L[j]? =some y→¬y.id < x.id)(ha:∀(i:Nat) (x y:Ky),L[i]? =some x→L[i+1]? =some y→x.id≠y.id):L.Pairwise fun x y=>x.id < y.id:=by
 rw[List.pairwise_iff_getElem]
 have step:∀(i:Nat) (x y:Ky),L[i]? =some x→L[i+1]? =some y→x.id < y.id:=by
  intro i x y e f;have b:=hs i (i+1) (Nat.lt_succ_self _) x y e f;rw[List.not_lt]at b;rcases List.le_iff_lt_or_eq.1 b with h | h
  ·exact h
  ·exact absurd h (ha i x y e f)
 intro i j g c k;obtain⟨d,rfl⟩:∃d,j=i+1+d:=⟨j - i - 1,by omega⟩
 induction d with
 |zero=>exact step i _ _ (List.getElem?_eq_getElem g) (List.getElem?_eq_getElem c)
 |succ d ih=>
  have a:i+1+d < L.length:=by omega
  exact List.lt_trans (ih a (by omega)) (step (i+1+d) _ _ (List.getElem?_eq_getElem a) (List.getElem?_eq_getElem c))
end
end Go.Proofs.YtocligpfmfmihaaGreatDoor
namespace Go.Proofs
open Go.Proofs.Tryz
section
open Go.Shelf
def Tryz.sortKey_ren:Go.Shelf.Ren:=⟨fun | 6=>179 | 15=>220 | 14=>219 | 28=>262 | 29=>263 | 20=>254 | 21=>255 | 22=>256 | 23=>257 | 24=>258 | 25=>259 | 26=>260 | 27=>261 | 46=>280 | 47=>281 | 48=>282 | 49=>283 | 50=>284 | 57=>297 | n=>n,fun | 22=>28 | 24=>35 | 25=>316 | 3=>3 | 39=>143 | 0=>0 | 53=>152 | 55=>241 | 4=>4 | 46=>377 | 45=>376 | 50=>381 | 5=>5 | 9=>9 | 66=>397 | 70=>400 | 76=>407 | 77=>408 | n=>n,fun | n=>n⟩
theorem Tryz.sortKey:Go.Proofs.SlLaysF0.n6 prog Tryz.sortKey_ren:={
 mixed:=by kernel_rfl
 f6:=⟨Tryz.f179.name,by decide,func179.trans (congrArg some (by kernel_rfl))⟩
 f14:=⟨Tryz.f219.name,by decide,func219.trans (congrArg some (by kernel_rfl))⟩
 f15:=func220.trans (congrArg some (by kernel_rfl))
 f20:=⟨Tryz.f254.name,by decide,func254.trans (congrArg some (by kernel_rfl))⟩
 f21:=⟨Tryz.f255.name,by decide,func255.trans (congrArg some (by kernel_rfl))⟩
 f22:=⟨Tryz.f256.name,by decide,func256.trans (congrArg some (by kernel_rfl))⟩
 f23:=⟨Tryz.f257.name,by decide,func257.trans (congrArg some (by kernel_rfl))⟩
 f24:=⟨Tryz.f258.name,by decide,func258.trans (congrArg some (by kernel_rfl))⟩
 f25:=⟨Tryz.f259.name,by decide,func259.trans (congrArg some (by kernel_rfl))⟩
 f26:=⟨Tryz.f260.name,by decide,func260.trans (congrArg some (by kernel_rfl))⟩
 f27:=⟨Tryz.f261.name,by decide,func261.trans (congrArg some (by kernel_rfl))⟩
 f28:=func262.trans (congrArg some (by kernel_rfl))
 f29:=func263.trans (congrArg some (by kernel_rfl))
 f46:=⟨Tryz.f280.name,by decide,func280.trans (congrArg some (by kernel_rfl))⟩
 f47:=func281.trans (congrArg some (by kernel_rfl))
 f48:=func282.trans (congrArg some (by kernel_rfl))
 f49:=⟨Tryz.f283.name,by decide,func283.trans (congrArg some (by kernel_rfl))⟩
 f50:=⟨Tryz.f284.name,by decide,func284.trans (congrArg some (by kernel_rfl))⟩
 f57:=⟨Tryz.f297.name,by decide,func297.trans (congrArg some (by kernel_rfl))⟩
 t0:=underlying0
 a0:=Tryz.isAgg0
 z0:=Tryz.sizeOf0
 v0:=Tryz.zeroValue0
 t3:=underlying3
 a3:=Tryz.isAgg3
 z3:=Tryz.sizeOf3
 v3:=Tryz.zeroValue3
 t4:=underlying4
 a4:=Tryz.isAgg4
 z4:=Tryz.sizeOf4
 v4:=Tryz.zeroValue4
 t5:=underlying5
 a5:=Tryz.isAgg5
 z5:=Tryz.sizeOf5
 v5:=Tryz.zeroValue5
 t9:=underlying9
 a9:=Tryz.isAgg9
 z9:=Tryz.sizeOf9
 v9:=Tryz.zeroValue9
 t22:=underlying28
 a22:=Tryz.isAgg28
 z22:=Tryz.sizeOf28
 v22:=Tryz.zeroValue28
 t25:=underlying316
 a25:=Tryz.isAgg316
 z25:=Tryz.sizeOf316
 v25:=Tryz.zeroValue316
 t39:=underlying143
 a39:=Tryz.isAgg143
 z39:=Tryz.sizeOf143
 v39:=Tryz.zeroValue143
 t45:=underlying376
 a45:=Tryz.isAgg376
 z45:=Tryz.sizeOf376
 v45:=Tryz.zeroValue376
 t46:=underlying377
 a46:=Tryz.isAgg377
 z46:=Tryz.sizeOf377
 v46:=Tryz.zeroValue377
 t50:=underlying381
 a50:=Tryz.isAgg381
 z50:=Tryz.sizeOf381
 v50:=Tryz.zeroValue381
 t53:=underlying152
 a53:=Tryz.isAgg152
 z53:=Tryz.sizeOf152
 v53:=Tryz.zeroValue152
 t55:=underlying241
 a55:=Tryz.isAgg241
 z55:=Tryz.sizeOf241
 v55:=Tryz.zeroValue241
 t66:=underlying397
 a66:=Tryz.isAgg397
 z66:=Tryz.sizeOf397
 v66:=Tryz.zeroValue397
 t70:=underlying400
 a70:=Tryz.isAgg400
 z70:=Tryz.sizeOf400
 v70:=Tryz.zeroValue400
 t76:=underlying407
 a76:=Tryz.isAgg407
 z76:=Tryz.sizeOf407
 v76:=Tryz.zeroValue407
 t77:=underlying408
 a77:=Tryz.isAgg408
 z77:=Tryz.sizeOf408
 v77:=Tryz.zeroValue408 }
def Tryz.growKey_ren:Go.Shelf.Ren:=⟨fun | 4=>218 | n=>n,fun | 22=>28 | 25=>35 | 3=>3 | 4=>4 | 9=>9 | 20=>20 | 0=>0 | n=>n,fun | n=>n⟩
theorem Tryz.growKey:Go.Proofs.Lays8.n4 prog Tryz.growKey_ren:={
 mixed:=by kernel_rfl
 f4:=⟨Tryz.f218.name,by decide,func218.trans (congrArg some (by kernel_rfl))⟩
 t0:=underlying0
 a0:=Tryz.isAgg0
 z0:=Tryz.sizeOf0
 v0:=Tryz.zeroValue0
 t3:=underlying3
 a3:=Tryz.isAgg3
 z3:=Tryz.sizeOf3
 v3:=Tryz.zeroValue3
 t4:=underlying4
 a4:=Tryz.isAgg4
 z4:=Tryz.sizeOf4
 v4:=Tryz.zeroValue4
 t9:=underlying9
 a9:=Tryz.isAgg9
 z9:=Tryz.sizeOf9
 v9:=Tryz.zeroValue9
 t20:=underlying20
 a20:=Tryz.isAgg20
 z20:=Tryz.sizeOf20
 v20:=Tryz.zeroValue20
 t22:=underlying28
 a22:=Tryz.isAgg28
 z22:=Tryz.sizeOf28
 v22:=Tryz.zeroValue28 }
end
end Go.Proofs
namespace Go.Proofs.YtocligpfmfmihaaGreatDoor
open Go.Proofs.Tryz
section
open Go Go.RowKit Go.Maps Go.WideMaps Go.Sort Go.Shelf
attribute [local go_sem] Oper.semAt_some
theorem y7(w:World)(n:Nat)(hn:n≤100000):(w.drew.alloc (.cells (([]:List Value).toArray ++Builtin.zeroCells (Value.agg #[.string ⟨#[]⟩,.string ⟨#[]⟩,.bool false,.int .i64 0]).cells n ++Builtin.zeroCells (Value.agg #[.string ⟨#[]⟩,.string ⟨#[]⟩,.bool false,.int .i64 0]).cells (grownCap w n 0 35 - n)) 35)).ownsRow w.heap.size 35 4 (.slice (some ⟨w.heap.size,0,none⟩) 0 (grownCap w n 0 35)) 0 []:=by
 have c:=grownCap_ge w n 0 35;have a:=grownCap_le_maxLen w n 0 35 (by unfold maxLen;omega);refine⟨rfl,Or.inr ⟨_,_,_,rfl,Nat.le_refl _,heap_alloc_new w.drew _,Nat.zero_le _,a, ?_,rfl⟩⟩;have b:(Value.agg #[.string ⟨#[]⟩,.string ⟨#[]⟩,.bool false,.int .i64 0]).cells.size=4:=rfl;simp only[Array.size_append,size_zeroCells,b];simp;omega
theorem se{w:World}{B:Nat}{a:Option Addr}{n c:Nat}{ks:List Ky}(_:n=ks.length)(row:w.ownsRow B 35 4 (.slice a n c) n (ks.flatMap kyC)):
  (a=none→n=0∧c=0)∧(∀d,a=some d→∀j q,(ks.flatMap kyC)[j]? =some q→w.cell? (d.add j)=some q)∧(∀q ∈ ks.flatMap kyC,q.oneCell'=true):=by
 refine⟨?_, ?_, ?_⟩
 ·rintro rfl
  rcases row.2 with⟨b,i⟩ | ⟨g,e,f,b,_⟩
  ·injection b with _ _ m
   exact⟨i,m⟩
  ·injection b with b;cases b
 ·rintro d rfl j q h
  rcases id row.2 with⟨b,i⟩ | ⟨g,e,f,b,_⟩
  ·injection b with b;cases b
  ·injection b with b _ _
   injection b with b
   subst b;exact row.cells (g:=g) rfl j q h
 ·intro q h
  obtain⟨k,_,l⟩:=List.mem_flatMap.1 h;simp[kyC]at l;rcases l with rfl | rfl | rfl | rfl <;> rfl
theorem yQ(w:World)(B1 B2:Nat)(v1 v2:Value)(ks1 ks2:List Ky)(row1:w.ownsRow B1 35 4 v1 ks1.length (ks1.flatMap kyC))(row2:w.ownsRow B2 35 4 v2 ks2.length (ks2.flatMap kyC))(ab:Nat)(hab:w.heap[ab]? =some (.cells #[v1,v2] 28))(hpos:0 < ks1.length)(hl1:ks1.length≤1000)(hl2:ks2.length≤1000):
  Calls prog 178 #[.slice (some ⟨ab,0,none⟩) 2 2] w fun e w'=>Kp (fun _=>False) w w'∧∃v,e=.returned v∧w'.ownsRow w.heap.size 35 4 v (ks1 ++ks2).length ((ks1 ++ks2).flatMap kyC):=by
 obtain⟨u,x,rfl,_⟩:=aJ row1;obtain⟨a2,y,rfl,_⟩:=aJ row2;have A:w.cell? ⟨ab,0,none⟩=some (.slice u ks1.length x):=by simp[World.cell?,hab]
 have B:w.cell? ⟨ab,1,none⟩=some (.slice a2 ks2.length y):=by simp[World.cell?,hab]
 obtain⟨i0,C,g,h,i⟩:=info_parts jH;have E:=ae (Any8.slices_Grow_grow Tryz.growKey i0 _ C g (by rw[h];decide) none 0 0 (ks1.length+ks2.length) [] w (Nat.le_refl _) (by omega) (by rw[i];omega) (by omega) (by simp) (fun _=>rfl) (by simp));go_enter func178,ntmps178;go_wp2_with fail
 refine wp_loop_rounds 3 ?_;rw[rounds_succ];go_wp2_with fail
 rw[rounds_succ];go_wp2_with fail
 rw[rounds_succ];go_wp2_with fail
 refine (show Calls prog 218 #[.slice none 0 0,.int .i64 ((ks1.length:Int)+(ks2.length:Int))] w _ from E.o).mono ?_;rintro e w1 ⟨rfl,c⟩;simp only[Nat.zero_add,Nat.sub_zero]at c ⊢;have F:=y7 w (ks1.length+ks2.length) (by omega)
 have p:Kp (fun _=>False) w w1:=by
  rw[c];exact ((Kp.refl _ w).drew).alloc _
 have k:w1.ownsRow w.heap.size 35 4 (.slice (some ⟨w.heap.size,0,none⟩) 0 (grownCap w (ks1.length+ks2.length) 0 35)) 0 []:=by
  rw[c];exact F
 clear E F c;have f:Hid (w1.ownsRow w.heap.size 35 4 (.slice (some ⟨w.heap.size,0,none⟩) 0 (grownCap w (ks1.length+ks2.length) 0 35)) 0 []):=k;clear k;have z:(Tryz.growKey_ren.t 25)=35:=rfl;rw[z];generalize grownCap w (ks1.length+ks2.length) 0 35=gc at *;obtain⟨K,L⟩:=jl (p.heap hab);have l:w1.ownsRow B1 35 4 (.slice u ks1.length x) ks1.length (ks1.flatMap kyC):=ap row1 (fun j hj=>p.block j (row1.lt j hj).2 (by simp));have a:=ae (se rfl l);clear A B;have G:=p.size;go_wp2_with fail
 refine wp_loop_rounds 3 ?_;rw[rounds_succ];go_wp2_with (at_builtin;(refine aQ _ rfl _ _ 28 rfl w.heap.size 35 i0 (.agg #[.string ⟨#[]⟩,.string ⟨#[]⟩,.bool false,.int .i64 0]) 4 48 underlying28 C g h i rfl (by decide) _ _ _ rfl f.o u ks1.length x (ks1.flatMap kyC) rfl (jM ks1) a.o.1 a.o.2.1 a.o.2.2 (by unfold maxLen;omega) (by omega) (by omega) ?_))
 intro v2 w2 d n D;have q:Kp (fun _=>False) w w2:=p.gr n (fun r e=>(f.o.lt r e).1);obtain⟨z,M⟩:=jl (q.heap hab);try simp only[Nat.zero_add,List.nil_append]at d
 obtain⟨a3,N,rfl,_⟩:=aJ d;have m:w2.ownsRow B2 35 4 (.slice a2 ks2.length y) ks2.length (ks2.flatMap kyC):=ap row2 (fun j hj=>q.block j (row2.lt j hj).2 (by simp));have b:=ae (se rfl m);have s:=ae d;have H:=q.size;clear f a d n D K L l;go_wp2_with fail
 rw[rounds_succ];go_wp2_with (at_builtin;(refine aQ _ rfl _ _ 28 rfl w.heap.size 35 i0 (.agg #[.string ⟨#[]⟩,.string ⟨#[]⟩,.bool false,.int .i64 0]) 4 48 underlying28 C g h i rfl (by decide) _ _ _ rfl s.o a2 ks2.length y (ks2.flatMap kyC) rfl (jM ks2) b.o.1 b.o.2.1 b.o.2.2 (by unfold maxLen;omega) (by omega) (by omega) ?_))
 intro v4 w3 d n D;have J:Kp (fun _=>False) w w3:=q.gr n (fun r e=>(s.o.lt r e).1);obtain⟨a4,O,rfl,_⟩:=aJ d;have I:=ae d;clear s b d n D z M m;go_wp2_with fail
 rw[rounds_succ];go_wp2;go_ret;refine⟨J,_,rfl, ?_⟩;rw[List.length_append,List.flatMap_append];exact I.o
instance:Inhabited Ky:=⟨⟨[],[],false,0⟩⟩
theorem BM(x y:Ky)(w:World):Calls prog 180 #[.agg (kyC x).toArray,.agg (kyC y).toArray] w fun e w'=>e=.returned (.int .i64 (ku x y))∧∃q os',w'=grow (w.drewN q) os':=by
 have a:=fun w'=>Tryz.strings_Compare ⟨x.id.toArray⟩ ⟨y.id.toArray⟩ w'
 have b:(⟨x.id.toArray⟩:ByteArray).data.toList=x.id:=rfl;have c:(⟨y.id.toArray⟩:ByteArray).data.toList=y.id:=rfl;rw[b,c]at a;unfold ku kyC;generalize Lib.compareBytes x.id y.id=r at a ⊢;have d:=ae a;clear a b c;go_enter func180,ntmps180;go_wp2_with fail
 refine (d.o _).mono ?_;rintro e w' ⟨rfl,rfl⟩;go_wp2;go_ret;exact⟨rfl,0,_,by rw[alloc_eq_grow,alloc_eq_grow,grow_grow];rfl⟩
theorem xI{d d':Array Ky}(h:PermIn 0 d.size d d'):d'.toList.Perm d.toList:=by
 obtain⟨a,_,b⟩:=h;rw[←a]at b;have c:d'.extract 0 d'.size=d':=by simp
 have e:d.extract 0 d'.size=d:=by rw[a];simp
 rwa[c,e]at b
theorem tF{d':Array Ky}{n:Nat}(hn:d'.size=n)(h:SortedIn (ltOf ku) 0 n d')(i j:Nat)(hij:i < j)(x y:Ky)(hx:d'.toList[i]? =some x)(hy:d'.toList[j]? =some y):¬y.id < x.id:=by
 have b:j < d'.size:=by
  rcases Nat.lt_or_ge j d'.size with h | h
  ·exact h
  ·rw[List.getElem?_eq_none (by simpa using h)]at hy;cases hy
 have a:=h i j (Nat.zero_le _) hij (by omega);rw[Array.getElem?_toList]at hx hy;rw[getElem!_def,getElem!_def,hx,hy]at a;simpa only [ltOf,ku,nM,decide_eq_false_iff_not] using a
theorem vK(w:World)(B g c:Nat)(ks:List Ky)(row:w.ownsRow B 35 4 (.slice (some ⟨g,0,none⟩) ks.length c) ks.length (ks.flatMap kyC))(hl:ks.length≤100000):
  Calls prog 179 #[.slice (some ⟨g,0,none⟩) ks.length c,.func (.func 180) #[] #[]] w fun e w'=>e=.returned (.tuple #[]) ∧
   ∃L:List Ky,L.Perm ks∧(∀(i j:Nat),i < j→∀(x y:Ky),L[i]? =some x→L[j]? =some y→¬y.id < x.id)∧Kp (· =g) w w'∧w'.ownsRow B 35 4 (.slice (some ⟨g,0,none⟩) ks.length c) ks.length (L.flatMap kyC):=by
 have a:ks.toArray.size=ks.length:=List.size_toArray;have h:=AnyQ.slices_SortFunc Tryz.sortKey 4 Tryz.isAgg35 Tryz.sizeOf35 kyC (fun _=>rfl) (fun x v hv=>by simp[kyC]at hv;rcases hv with rfl | rfl | rfl | rfl <;> rfl) ku Du 180 #[] g 0 c ks.toArray w (enters_of func180 (by kernel_rfl) rfl) (fun _ _ _ _ x y=>BM x y _) (xU ks.toArray (by exact row) a) (row.lt g rfl).2 (by rw[a];omega);rw[a]at h;refine Calls.mono (show Calls prog 179 _ _ _ from h) ?_;rintro e w' ⟨rfl,f,l,os,b,d,rfl⟩;rw[←a]at b d;have k:f.size=ks.length:=b.1.trans a;exact⟨rfl,f.toList,xI b,tF (b.1) d,CJ kyC 4 w g l f os,Af l f os row k⟩
theorem vl(W:World)(hN:NG2 W)(w:World)(hW:Below W.heap.size W w)(B1 B2:Nat)(v1 v2:Value)(ks1 ks2:List Ky)(row1:w.ownsRow B1 35 4 v1 ks1.length (ks1.flatMap kyC))(row2:w.ownsRow B2 35 4 v2 ks2.length (ks2.flatMap kyC))(hpos:0 < ks1.length)(hl1:ks1.length≤1000)(hl2:ks2.length≤1000):
  Calls prog 137 #[v1,v2] w fun e w'=>KuR W w (bJ ks1 ks2) e w':=by
 obtain⟨A,R,S⟩:=hN.sml 17 (by simp);obtain⟨J,K,rfl,_⟩:=aJ row1;obtain⟨a2,M,rfl,_⟩:=aJ row2;have H:Kp (fun _=>False) w (w.alloc (.cells #[.slice J ks1.length K,.slice a2 ks2.length M] 28)):=(Kp.refl _ _).alloc _;have t:=ae (yQ _ B1 B2 _ _ ks1 ks2 (row1.alloc _) (row2.alloc _) w.heap.size (heap_alloc_new w (.cells #[.slice J ks1.length K,.slice a2 ks2.length M] 28)) hpos hl1 hl2);have af:=H.size;clear row1 row2;go_enter func137,ntmps137;go_wp2_with fail
 generalize (w.alloc (.cells #[.slice J ks1.length K,.slice a2 ks2.length M] 28))=w0 at *;refine t.o.mono ?_;rintro e w1 ⟨V,v,rfl,row⟩;obtain⟨a3,N,rfl,Y⟩:=aJ row;obtain⟨g,rfl,aa⟩:=Y (by rw[List.length_append];omega);have Z:=(row.lt g rfl).1;have u:=ae (vK w1 _ g N (ks1 ++ks2) row (by rw[List.length_append];omega));have T:=ae (H.trans V);clear t row V Y H;have ad:(ks1 ++ks2).length≤100000∧0 < (ks1 ++ks2).length:=by rw[List.length_append];omega
 generalize hks:ks1 ++ks2=ks at *;have G:=ae hks;clear hks;go_wp2_with fail
 refine u.o.mono ?_;rintro e w2 ⟨rfl,L,b,n,X,f⟩;have I:Kp (fun _=>False) w w2:=T.o.and X (by intro i hi e;omega);have O:L.length=ks.length:=b.length_eq;have d:∀(j:Nat) (k:Ky),L[j]? =some k→w2.cell? ⟨g,j*4,none⟩=some (.string ⟨k.id.toArray⟩):=fun j k hk=>(eC f j k hk).1
 rw[←G.o]at b;have F:=ae (An b n)
 have U:Hid ((∀(j:Nat) (k:Ky),L[j]? =some k→w2.cell? ⟨g,j*4,none⟩=some (.string ⟨k.id.toArray⟩))∧Kp (fun _=>False) w w2∧w2.ownsRow w0.heap.size 35 4 (.slice (some ⟨g,0,none⟩) ks.length N) ks.length (L.flatMap kyC)∧w2.cell? ⟨17,0,none⟩=some (ax A)∧Ech W w2 (ax A)):=
  ⟨d,I,f,Below.cl (am hW I) R,Ech.base A S⟩
 clear u T X f I b n d;go_wp2_with fail
 go_loopg [7] ks.length (fun gg a wr=>∃(i:Nat),gg=ks.length - i∧i+1≤ks.length∧a=.int .i64 ((i:Int)+1)∧((∀(j:Nat) (k:Ky),L[j]? =some k→wr.cell? ⟨g,j*4,none⟩=some (.string ⟨k.id.toArray⟩))∧Kp (fun _=>False) w wr∧wr.ownsRow w0.heap.size 35 4 (.slice (some ⟨g,0,none⟩) ks.length N) ks.length (L.flatMap kyC)∧wr.cell? ⟨17,0,none⟩=some (ax A)∧Ech W wr (ax A))∧∀(j:Nat) (x y:Ky),j < i→L[j]? =some x→L[j+1]? =some y→x.id≠y.id)
 case atStart=>exact⟨0,rfl,by omega,rfl,U.o,fun _ _ _ h=>absurd h (by omega)⟩
 case round=>
  obtain⟨i,B,ab,rfl,r,m⟩:=hrel;have E:=ae (An B m);have c:=ae r;have P:=r.2.2.2.1;unfold ax at P;clear B m r U;by_cases ac:i+1 < ks.length
  ·have C:decide ((i:Int)+1 < (ks.length:Int))=true:=by simp;omega
   obtain⟨x,hx⟩:∃k,L[i+1]? =some k:=⟨L[i+1],List.getElem?_eq_getElem (by omega)⟩;obtain⟨y,hy⟩:∃k,L[i]? =some k:=⟨L[i],List.getElem?_eq_getElem (by omega)⟩;have cx:=c.o.1 (i+1) x hx;have cy:=c.o.1 i y hy;have D:=ae (An hx hy);clear hx hy;by_cases s:x.id=y.id
   ·have Q:(x.id == y.id)=true:=by simpa using s
    have z:=ae (BN F.o.1 (Nat.lt_succ_self i) D.o.2 D.o.1 s.symm);clear s;go_wp2;go_quiet (fail)
    go_wp2;go_region
    go_wp2;go_ret2
    rw[z.o];exact⟨(c.o.2.1.drewN _).alloc _,_,rfl,.mem _ _ _ (by exact heap_alloc_new (wr.drewN _) _) (c.o.2.2.2.2.up (((Kp.refl _ _).drewN _).alloc _))⟩
   ·have Q:(x.id == y.id)=false:=by simpa using s
    have z:=ae s;clear s;go_wp2;go_quiet (fail)
    go_wp2;go_roundg (ks.length - (i+1))
    case measure=>rw[E.o.1];omega
    case rel=>
     refine⟨i+1,rfl,by omega,ak (by omega),⟨c.o.1,c.o.2.1.drewN _,c.o.2.2.1,c.o.2.2.2.1,c.o.2.2.2.2.up ((Kp.refl _ _).drewN _)⟩, ?_⟩;intro j p q hj hp l;rcases Nat.lt_or_ge j i with h | h
     ·exact E.o.2 j p q h hp l
     ·have:j=i:=by omega
      subst this;rw[D.o.2]at hp;rw[D.o.1]at l;injection hp with hp
      injection l with l
      subst hp l;exact fun e=>z.o e.symm
  ·have C:decide ((i:Int)+1 < (ks.length:Int))=false:=by simp;omega
   have z:=ae (zi F.o.1 (yc F.o.2 (fun j p q hp l=>E.o.2 j p q (by
     have:j+1 < L.length:=by
       rcases Nat.lt_or_ge (j+1) L.length with h | h
       · exact h
       · rw[List.getElem?_eq_none h]at l;cases l
     omega) hp l)))
   go_wp2;go_ret2
   rw[z.o];refine⟨c.o.2.1,_,rfl, ?_⟩;rw[O];exact cr (by omega) c.o.2.2.1
def DoR(W w:World)(o:Option (Bs×Int×List Ky))(e:Ending)(w':World):Prop:=Kp (fun _=>False) w w'∧match o with
 |some (s,u,ks)=>∃v,e=.returned (.tuple #[.agg #[.string ⟨s.toArray⟩,.int .i64 u,v],.nilIface])∧w'.ownsRow w.heap.size 35 4 v ks.length (ks.flatMap kyC)
 |none=>∃ev,e=.returned (.tuple #[.agg #[.string ⟨#[]⟩,.int .i64 0,.slice none 0 0],ev])∧Ech W w' ev
theorem fu{w:World}{rb:Nat}{a b c d:Value}(tmps:Array Value)(h2:tmps[2]?.getD undef=.pointer (some ⟨rb,0,none⟩))(h3:tmps[3]?.getD undef=d)(hb:w.heap[rb]? =some (.cells #[a,b,c] 30)):
  (results Tryz.f78 tmps).run prog w=.ok (.tuple #[.agg #[a,b,c],d]) w:=by
 obtain⟨e,f,g,_⟩:=ba hb;simp[results,results78,go_sem,h2,h3,e,f,g]
theorem Df{W w:World}{q:Nat}{ev x y z a b c:Value}{T:TypeId}(h:Ech W w ev)(hq:w.heap[q]? =some (.cells #[x,y,z] T))(hT:T≠252):Ech W (((w.setCell ⟨q,0,none⟩ a).setCell ⟨q,1,none⟩ b).setCell ⟨q,2,none⟩ c) ev:=by
 refine h.old ?_;intro k f d
 have:k≠q:=by
  rintro rfl;rw[hq]at d;injection d with d
  injection d with _ e _
  exact hT e
 rw[af (by exact this),af (by exact this),af (by exact this)]
theorem nN{W w w6:World}{o:Option (Bs×Int×List Ky)}{ev x y z:Value}(h:Kp (fun _=>False) w w6)(hq:w6.heap[w.heap.size]? =some (.cells #[x,y,z] 30))(he:Ech W w6 ev)(ho:o=none):
  DoR W w o (.returned (.tuple #[.agg #[.string ⟨#[]⟩,.int .i64 0,.slice none 0 0],ev])) (((w6.setCell ⟨w.heap.size,0,none⟩ (.string ⟨#[]⟩)).setCell ⟨w.heap.size,1,none⟩ (.int .i64 0)).setCell ⟨w.heap.size,2,none⟩ (.slice none 0 0)):=by
 subst ho;exact⟨kp3 h,_,rfl,Df he hq (by decide)⟩
theorem Dd{W w w6:World}{B:Nat}{o:Option (Bs×Int×List Ky)}{s:Bs}{u:Int}{ks:List Ky}{v:Value}(h:Kp (fun _=>False) w w6)(hB:w.heap.size < B)(row:w6.ownsRow B 35 4 v ks.length (ks.flatMap kyC))(ho:o=some (s,u,ks)):
  DoR W w o (.returned (.tuple #[.agg #[.string ⟨s.toArray⟩,.int .i64 u,v],.nilIface])) (((w6.setCell ⟨w.heap.size,0,none⟩ (.string ⟨s.toArray⟩)).setCell ⟨w.heap.size,1,none⟩ (.int .i64 u)).setCell ⟨w.heap.size,2,none⟩ v):=by
 subst ho;refine⟨kp3 h,_,rfl,cr (Nat.le_of_lt hB) (ap row ?_)⟩;intro k b;have:=(dh row b).1;have a:k≠w.heap.size:=by omega
 rw[af (by exact a),af (by exact a),af (by exact a)]
theorem qR(W:World)(hN:NG2 W)(w:World)(hW:Below W.heap.size W w)(l:List (Bs×J))(b:Nat)(ho:Oz w l b)
  (hch1:∀m,dt (ai iG l)=some m→Srt m∧m.length≤1000∧∀p ∈ m,p.1.length≤1000) (hch2:∀m,dt (ai gY l)=some m→Srt m∧m.length≤1000∧∀p ∈ m,p.1.length≤1000) :
  Calls prog 78 #[.map (some b)] w fun e w'=>DoR W w (cw l) e w':=by
 have a:=oZ l;have K0:Kp (fun _=>False) w (w.alloc (.cells #[.string ⟨#[]⟩,.int .i64 0,.slice none 0 0] 30)):=(Kp.refl _ _).alloc _;have I0:=heap_alloc_new w (.cells #[.string ⟨#[]⟩,.int .i64 0,.slice none 0 0] 30);have r:=ae (jw W hN _ (am hW K0) l b lB (by decide) (ho.up K0));have E:=ae (An hch1 hch2);have af:(w.alloc (.cells #[.string ⟨#[]⟩,.int .i64 0,.slice none 0 0] 30)).heap.size=w.heap.size+1:=by simp
 clear hch1 hch2;go_enter func78,ntmps78;go_wp2_with fail
 generalize (w.alloc (.cells #[.string ⟨#[]⟩,.int .i64 0,.slice none 0 0] 30))=w0 at *;refine r.o.mono ?_;rintro e w1 ⟨V,H⟩;have y:=ae (K0.trans V);have N:=V.heap I0;have ag:=V.size;obtain⟨B,C,D,i,k,n,g⟩:=ba N;clear r V I0
 cases hsn:bs (ai lB l) with
 |none=>
  rw[hsn]at H a;obtain⟨Z,rfl,d⟩:=H;obtain⟨tt,u,rfl⟩:=d.iface;have f:=ae (An d a);clear d hsn a;go_wp2;exact bodyPost_ret (fu _ rfl rfl (cM N)) rfl (nN y.o N f.o.1 f.o.2)
 |some s=>
  rw[hsn]at H a;replace H:e=.returned (.tuple #[.string ⟨s.toArray⟩,.nilIface]):=H;subst H;simp only[Option.bind_some]at a;have r:=ae (gZ W hN w1 (am hW y.o) l b lC (by decide) (ho.up y.o));have HD:=ae a;clear hsn a B C D i k n;go_wp2_with fail
  refine r.o.mono ?_;rintro e w2 ⟨X,I⟩;have z:=ae (y.o.trans X);have O:=X.heap N;have ah:=X.size;clear g r X N;obtain⟨B,C,D,i,k,n,g⟩:=ba O;have a:=HD.o
  cases hun:cC (ai lC l) with
  |none=>
   rw[hun]at I a;obtain⟨Z,rfl,d⟩:=I;obtain⟨tt,u,rfl⟩:=d.iface;have f:=ae (An d a);clear d hun a;go_wp2;exact bodyPost_ret (fu _ rfl rfl (cM O)) rfl (nN z.o O f.o.1 f.o.2)
  |some un=>
   rw[hun]at I a;replace I:e=.returned (.tuple #[.int .i64 un,.nilIface]):=I;subst I;simp only[Option.bind_some]at a;have r:=ae (tp W hN w2 (am hW z.o) l b un (ho.up z.o) E.o.1);have K:=ae a;clear hun a B C D i k n HD;go_wp2_with fail
   refine r.o.mono ?_;rintro e w3 ⟨Y,h3⟩;have A:=ae (z.o.trans Y);have P:=Y.heap O;have aj:=Y.size;clear g r Y O;obtain⟨B,C,D,i,k,n,g⟩:=ba P;have a:=K.o
   cases hin:inF un l with
   |none=>
    rw[hin]at h3 a;obtain⟨Z,rfl,d⟩:=h3;obtain⟨tt,u,rfl⟩:=d.iface;have f:=ae (An d a);clear d hin a;go_wp2;exact bodyPost_ret (fu _ rfl rfl (cM P)) rfl (nN A.o P f.o.1 f.o.2)
   |some ks1=>
    rw[hin]at h3 a;obtain⟨v1,rfl,t⟩:=h3;simp only[Option.bind_some]at a
    have T:0 < ks1.length∧ks1.length≤1000:=by
     unfold inF at hin
     cases hob:dt (ai iG l) with
     |none=>rw[hob]at hin;cases hin
     |some m=>
      rw[hob,Option.bind_some]at hin;by_cases h:1≤m.length∧m.length≤4
      ·rw[if_pos h]at hin
       have:=congrArg List.length (de hin).1;simp only[List.length_map]at this;omega
      ·rw[if_neg h]at hin;cases hin
    have r:=ae (xy W hN w3 (am hW A.o) l b (ho.up A.o) E.o.2);have L:=ae a;obtain⟨ac,ad,rfl,_⟩:=aJ t;have G:=ae t;clear hin a B C D i k n K t;go_wp2_with fail
    refine r.o.mono ?_;rintro e w4 ⟨R,h4⟩;have F:=ae (A.o.trans R);have Q:=R.heap P;have ak:=R.size;have q:w4.ownsRow w2.heap.size 35 4 (.slice ac ks1.length ad) ks1.length (ks1.flatMap kyC):=ap G.o (fun j hj=>R.block j (G.o.lt j hj).2 (by simp));clear g r R P G;obtain⟨B,C,D,i,k,n,g⟩:=ba Q;have a:=L.o
    cases c:fW l with
    |none=>
     rw[c]at h4 a;obtain⟨Z,rfl,d⟩:=h4;obtain⟨tt,u,rfl⟩:=d.iface;have f:=ae (An d a);clear d c a q;go_wp2;exact bodyPost_ret (fu _ rfl rfl (cM Q)) rfl (nN F.o Q f.o.1 f.o.2)
    |some ks2=>
     rw[c]at h4 a;obtain⟨v2,rfl,v⟩:=h4;simp only[Option.bind_some]at a
     have ab:ks2.length≤1000:=by
      rw[mh]at c
      cases hob:ai gY l with
      |none=>
       rw[hob]at c;injection c with c
       subst c;exact Nat.zero_le _
      |some j=>
       rw[hob]at c;replace c:(dt (some j)).bind (aI true 0)=some ks2:=c
       cases hom:dt (some j) with
       |none=>rw[hom]at c;cases c
       |some m=>
        rw[hom,Option.bind_some]at c;have S:=(E.o.2 m (by rw[hob];exact hom)).2.1;have:=congrArg List.length (de c).1;simp only[List.length_map]at this;omega
     have r:=ae (vl W hN w4 (am hW F.o) _ _ _ _ ks1 ks2 q v T.1 T.2 ab);have aa:=ae a;obtain⟨al,ao,rfl,_⟩:=aJ v;clear c a B C D i k n L q v;go_wp2_with fail
     refine r.o.mono ?_;rintro e w5 ⟨K5,S⟩;have M:=ae (F.o.trans K5);have U:=K5.heap Q;clear g r K5 Q;obtain⟨B,C,D,i,k,n,g⟩:=ba U;have a:=aa.o
     cases hj:bJ ks1 ks2 with
     |none=>
      rw[hj]at S a;obtain⟨Z,rfl,d⟩:=S;obtain⟨tt,u,rfl⟩:=d.iface;have f:=ae (An d a);clear d hj a;go_wp2;exact bodyPost_ret (fu _ rfl rfl (cM U)) rfl (nN M.o U f.o.1 f.o.2)
     |some ks=>
      rw[hj]at S a;obtain⟨v3,rfl,x⟩:=S;obtain⟨an,aq,rfl,_⟩:=aJ x;have f:=ae (An x a);clear hj a x;go_wp2;exact bodyPost_ret (fu _ rfl rfl (cM U)) rfl (Dd M.o (by omega) f.o.1 f.o.2)
end
end Go.Proofs.YtocligpfmfmihaaGreatDoor
