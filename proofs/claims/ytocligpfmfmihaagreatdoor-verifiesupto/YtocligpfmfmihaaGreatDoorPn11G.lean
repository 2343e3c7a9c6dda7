import Derived.Test.YtocligpfmfmihaaGreatDoorRn3
import Derived.Test.YtocligpfmfmihaaGreatDoorRn4
set_option maxHeartbeats 4000000
set_option maxRecDepth 20000
namespace Go.Proofs.YtocligpfmfmihaaGreatDoor
open Go.Proofs.Tryz
section
open Go Go.RowKit Go.Maps Go.WideMaps Go.MuLone
attribute [local go_sem] Oper.semAt_some
theorem yE(W:World)(hN:NG3 W)(w:World)(hW:Below W.heap.size W w)(F:Nat→Prop)(hFl:∀k,F k→W.heap.size≤k)(nb:Nat)(nm id ky:Bs)(srcs:List Bs)(st:Ldg)(c:Nat)(hP:PN w F nb nm id ky srcs st c)(s:Bs)(hs:s.length≤2000000)(h1:nm.length≤2000000)(h2:id.length≤2000000)(h3:ky.length≤2000000):
  Calls prog 86 #[.pointer (some ⟨nb,0,none⟩),.string ⟨s.toArray⟩] w fun e w'=>CT w (cP st nm id ky s) e w':=by
 obtain⟨M,z,Z,hp⟩:=hP
 have B:W.heap.size≤z:=by
  obtain⟨mb,ib,sm,im,Bf,Qf,qm,Q⟩:=hp.kn;exact hFl z (hp.fk z Q.fk)
 have D:=ae (xm W hN w hW M z B st c hp.kn s hs);obtain⟨U,V,n2,X,Y⟩:=cX hp.nblk;have N:=ae hp;clear hp;go_enter func86,ntmps86;go_wp2_with fail
 refine D.o.mono ?_;rintro e w1 ⟨E,j⟩;have f:=ae E;clear E D U V n2 X Y
 cases hd:st.docs s with
 |none=>
  rw[hd]at j;obtain⟨K,L,rfl,h⟩:=j;have m:=ae (jF W hN.n2 w1 (am hW f.o) _ 8 (Or.inr h));have i:=ae (show cP st nm id ky s=([],8) by unfold cP;rw[hd]);clear h hd;go_wp2_with fail
  refine m.o.mono ?_;rintro e w2 ⟨rfl,q⟩;have b:=ae (f.o.trans q);clear q;go_wp2;go_ret2
  rw[i.o];exact⟨rfl,b.o⟩
 |some t=>
  rw[hd]at j;replace j:e=.returned (.tuple #[.string ⟨t.toArray⟩,.nilIface]):=j;subst j;have C:=ae (qz W hN.n2.ng w1 (am hW f.o) nb z nm id ky Z (f.o.heap N.o.nblk) t h1 h2 h3);have G:cP st nm id ky s=bB t nm id (cQ ⟨ky.toArray⟩ ⟨(bU t).1.toArray⟩).data.toList:=by unfold cP;rw[hd]
  have i:=ae G;clear G hd;go_wp2_with fail
  refine C.o.mono ?_;rintro e w2 ⟨q,P⟩;have b:=ae (f.o.trans q);clear q C;rcases P with⟨n,K,L,a,rfl,h⟩ | ⟨l,a,_,x⟩
  ·have m:=ae (pc W hN.n2.ng w2 (am hW b.o) _ n h)
   have p:=ae (show bB t nm id (cQ ⟨ky.toArray⟩ ⟨(bU t).1.toArray⟩).data.toList=([],n) by unfold bB fF;rw[a];rfl);clear h a;go_wp2_with fail
   refine m.o.mono ?_;rintro e w3 ⟨rfl,r⟩;have g:=ae (b.o.trans r);clear r;go_wp2;go_ret2
   rw[i.o,p.o];exact⟨rfl,g.o⟩
  ·have u:(bU t).1=aA l:=by unfold bU;rw[a];rfl
   rw[u]at i;obtain⟨tl,htl⟩:∃tl:Bs,(cQ ⟨ky.toArray⟩ ⟨(aA l).toArray⟩).data.toList=tl:=⟨_,rfl⟩
   have S:tl.length=8:=by
    have:=lR ⟨ky.toArray⟩ ⟨(aA l).toArray⟩;rw[←htl,kY];exact this
   rw[htl]at i x;clear u htl;rcases x with⟨d,b2,rfl,J⟩ | ⟨d,ev,rfl,h,K,L,rfl⟩
   ·obtain⟨hp,H⟩:=eX a
    have v:=eD hp;have T:=qt hp H nm id tl h1 h2 (by omega);have R:(cnt (.obj (eM l nm id tl))+1)*((cJ (.obj (eM l nm id tl))).length+2)≤2001*90000002:=Nat.mul_le_mul (by omega) (by omega)
    have y:WF 6 (.obj (eM l nm id tl)):=by
     have A:=d;simp only[Bool.and_eq_true]at A;exact yr l _ _ _ v.1 A.1.1 A.1.2 A.2
    have O:=ae (sG W hN.n2.ng.gl 6 (.obj (eM l nm id tl)) y (by omega) (by omega) _ _ w2 (am hW b.o) J);have p:=ae (show bB t nm id tl=(cJ (.obj (eM l nm id tl)),0) by unfold bB fF;rw[a];simp only[d];rfl);clear d J a hp H v T R y;go_wp2_with fail
    refine O.o.mono ?_;rintro e w3 ⟨rfl,I⟩;have g:=ae (b.o.trans (Az I));clear I;go_wp2;go_ret2
    rw[i.o,p.o];exact⟨rfl,g.o⟩
   ·have m:=ae (pc W hN.n2.ng w2 (am hW b.o) _ 2 h)
    have p:=ae (show bB t nm id tl=([],2) by unfold bB fF;rw[a];simp only[d];rfl);clear h d a;go_wp2_with fail
    refine m.o.mono ?_;rintro e w3 ⟨rfl,r⟩;have g:=ae (b.o.trans r);clear r;go_wp2;go_ret2
    rw[i.o,p.o];exact⟨rfl,g.o⟩
def PR(w:World)(F:Nat→Prop)(pb:Nat)(nm id ky:Bs)(srcs:List Bs)(so:Value)(st:Ldg)(c:Nat):Prop:=
 ∃(Fn Fr:Nat→Prop) (nb rb:Nat),w.heap[pb]? =some (.cells #[.pointer (some ⟨nb,0,none⟩),.pointer (some ⟨rb,0,none⟩)] 90)∧PN w Fn nb nm id ky srcs st c∧RN w Fr rb nm id ky so st c∧(∀k,Fn k→F k∧¬Fr k∧k≠pb)∧(∀k,Fr k→F k∧k≠pb)∧F pb∧(∀k,F k→k < w.heap.size)
theorem PN.mono{w:World}{F:Nat→Prop}{nb:Nat}{nm id ky:Bs}{srcs:List Bs}{st:Ldg}{c c':Nat}(h:PN w F nb nm id ky srcs st c)(hc:c≤c'):PN w F nb nm id ky srcs st c':=by
 obtain⟨a,b,d,h⟩:=h;exact⟨a,b,d,h.mono hc⟩
theorem PR.frame{w w':World}{F:Nat→Prop}{pb:Nat}{nm id ky:Bs}{srcs:List Bs}{so:Value}{st:Ldg}{c c':Nat}(h:PR w F pb nm id ky srcs so st c)(hs:w.heap.size≤w'.heap.size)(hk:∀k,F k→w'.heap[k]? =w.heap[k]?)(hc:c≤c'):PR w' F pb nm id ky srcs so st c':=by
 obtain⟨e,f,m,n,g,i,j,a,b,d,l⟩:=h;exact⟨e,f,m,n,(hk pb d).trans g,(i.frame hs (fun k hf=>hk k (a k hf).1)).mono hc,(j.frame (fun k hf=>hk k (b k hf).1)).mono hc,a,b,d,fun k hf=>Nat.lt_of_lt_of_le (l k hf) hs⟩
theorem PR.lt{w:World}{F:Nat→Prop}{pb:Nat}{nm id ky:Bs}{srcs:List Bs}{so:Value}{st:Ldg}{c:Nat}(h:PR w F pb nm id ky srcs so st c):∀k,F k→k < w.heap.size:=by
 obtain⟨b,d,m,n,e,f,g,i,j,l,a⟩:=h;exact a
theorem jS{P:Program}{c:Code}{Q:Exit→Act→World→Prop}{a:Act}{w:World}(A:Act)(C:World→Prop)(h:Code.wp P c (noP fun ex a' w'=>ex=.normal∧a'=A∧C w') a w)(hq:∀X,C X→Q .normal A X):Code.wp P c Q a w:=
 lX (Code.wp_mono (fun e _ _ h=>by
   cases e <;> first
     |exact h.elim
     | (obtain⟨d,rfl,b⟩:=h;exact hq _ b)
     |exact absurd h.1 (by intro h;cases h)) h)
theorem fD{A:Act}{X:World}{C:World→Prop}(h:C X):noP (fun ex a' w'=>ex=.normal∧a'=A∧C w') .normal A X:=⟨rfl,rfl,h⟩
theorem zP{w w':World}{F:Nat→Prop}{nb:Nat}{nm id ky:Bs}{srcs:List Bs}{st:Ldg}{c:Nat}(h:PnR w F nb nm id ky srcs st c w'):PnR w F nb nm id ky srcs st c w'.drew:=by
 obtain⟨a,K,b,d⟩:=h;exact⟨a,K.drew,b,d.frame (Nat.le_refl _) (fun _ _=>rfl)⟩
theorem iL{w:World}{ob:Nat}{kind:Int}{two:Bool}{s t:Bs}{now:Int}{rp li:Value}(h:w.heap[ob]? =some (.cells #[.int .i64 kind,.bool two,.string ⟨s.toArray⟩,.string ⟨t.toArray⟩,.int .i64 now,rp,li] 93)):
  w.cell? ⟨ob,2,none⟩=some (.string ⟨s.toArray⟩)∧w.cell? ⟨ob,3,none⟩=some (.string ⟨t.toArray⟩)∧w.cell? ⟨ob,4,none⟩=some (.int .i64 now):=by
 refine⟨?_, ?_, ?_⟩ <;> simp[World.cell?,h]
def opV(kind:Int)(two:Bool)(s t:Bs)(now:Int)(rp li:Value):Value:=.agg #[.int .i64 kind,.bool two,.string ⟨s.toArray⟩,.string ⟨t.toArray⟩,.int .i64 now,rp,li]
theorem El(w:World):(binOp .eql 36 (.slice none 0 0) (.slice none 0 0)).run prog w=.ok (.bool true) w:=by kernel_rfl
theorem Eb(ad:Addr)(n c:Nat)(w:World):(binOp .eql 36 (.slice (some ad) n c) (.slice none 0 0)).run prog w=.ok (.bool false) w:=by kernel_rfl
theorem BA(w:World)(B:Nat)(v:Value)(xs:List Bs)(row:w.ownsRow B 9 1 v xs.length (xs.map fun s=>.string ⟨s.toArray⟩))(hn:xs.length≤1100000000):
  Calls prog 54 #[v] w fun e w'=>∃q,e=.returned q∧Kp (fun _=>False) w w'∧w'.ownsRow w.heap.size 9 1 q xs.length (xs.map fun s=>.string ⟨s.toArray⟩):=by
 obtain⟨G,t,rfl⟩:=aE row
 cases G with
 |none=>
  have F:xs=[]∧t=0:=by
   rcases row.2 with⟨c,e⟩ | ⟨g,i,k,e,_⟩
   ·injection c with _ _ c
    exact⟨List.length_eq_zero_iff.1 e,c⟩
   ·injection e with e;cases e
  obtain⟨rfl,rfl⟩:=F;clear row;have E:=El;go_enter func54,ntmps54;go_wp2;go_ret;exact⟨_,rfl,Kp.refl _ _,World.ownsRow_nil _ _ _ _⟩
 |some d=>
  have E:=Eb d xs.length t;go_enter func54,ntmps54;obtain⟨i0,D,m,n,p⟩:=info_parts ew
  obtain⟨g,rfl⟩:∃g,d=⟨g,0,none⟩:=by
   rcases row.2 with⟨c,_⟩ | ⟨g,i,k,e,_⟩
   ·injection c with c;cases c
   ·injection e with e
    injection e with e
    exact⟨g,e⟩
  have a:∀d,some (⟨g,0,none⟩:Addr)=some d→∀j u,(xs.map fun s=>Value.string ⟨s.toArray⟩)[j]? =some u→(w.alloc (.cells #[] 9)).cell? (d.add j)=some u:=by
   intro d h j u l;injection h with h
   subst h;exact (row.alloc (.cells #[] 9)).cells (g:=g) rfl j u l
  have b:∀u ∈ (xs.map fun s=>Value.string ⟨s.toArray⟩),u.oneCell'=true:=by
   intro u l;obtain⟨s,_,rfl⟩:=List.mem_map.1 l;rfl
  have z:=World.ownsRow_lit (base:=w.heap.size) (e:=9) (size:=1) w #[] 0 (Nat.le_refl _) (Nat.zero_le _) rfl;have f:=ae (An a (An b z));clear a b z row;go_wp2_with (at_builtin;(refine aQ _ rfl _ _ 36 rfl w.heap.size 9 i0 (.string ⟨#[]⟩) 1 16 underlying36 D m n p rfl (by decide) _ _ _ rfl f.o.2.2 (some ⟨g,0,none⟩) xs.length t (xs.map fun s=>Value.string ⟨s.toArray⟩) rfl (by simp) (fun h=>by cases h) f.o.1 f.o.2.1 (by unfold maxLen;omega) (by omega) (by simp) ?_))
  intro q w' A C H;have y:Kp (fun _=>False) w w':=((Kp.refl _ w).alloc _).gr C (fun r e=>by have:=Option.some.inj (show some w.heap.size=some r from e);omega);have x:=ae (An A y);clear A C H y;go_wp2;go_ret;refine⟨_,rfl,x.o.2, ?_⟩;exact x.o.1
theorem vp(w:World):Calls prog 55 #[] w fun e w'=>∃F kb,e=.returned (.pointer (some ⟨kb,0,none⟩))∧Kp (fun _=>False) w w'∧KN w' F kb Ldg.zero 0∧(∀k,F k→w.heap.size≤k∧k < w'.heap.size):=by
 have c:∀(w:World),(Instr.makeMap 168 none).run prog w=.ok (.map (some w.heap.size)) (w.alloc (.map #[] 0)):=by
  intro w;simp[Instr.makeMap,Result.andThen]
 have d:∀(w:World),(Instr.makeMap 169 none).run prog w=.ok (.map (some w.heap.size)) (w.alloc (.map #[] 0)):=by
  intro w;simp[Instr.makeMap,Result.andThen]
 go_enter func55,ntmps55;go_wp2;go_ret;obtain⟨f,i2,i3⟩:=lU w (.map #[] 0) (.map #[] 0) (.cells #[.int .i32 0,.int .u32 0,.map (some w.heap.size),.map (some (w.heap.size+1))] 177);have g:(w.alloc (.map #[] 0)).ownsMap prog 9 Rv w.heap.size 0 (dm []):=by simpa[dm] using World.ownsMap_made w prog 9 Rv
 have i:((w.alloc (.map #[] 0)).alloc (.map #[] 0)).ownsMap prog 9 Rv (w.heap.size+1) 0 (dm []):=by
  have h:=World.ownsMap_made (w.alloc (.map #[] 0)) prog 9 Rv;rw[World.size_alloc]at h;simpa[dm] using h
 have b:Kp (fun _=>False) w (((w.alloc (.map #[] 0)).alloc (.map #[] 0)).alloc (.cells #[.int .i32 0,.int .u32 0,.map (some w.heap.size),.map (some (w.heap.size+1))] 177)):=(((Kp.refl _ _).alloc _).alloc _).alloc _;have a:(((w.alloc (.map #[] 0)).alloc (.map #[] 0)).alloc (.cells #[.int .i32 0,.int .u32 0,.map (some w.heap.size),.map (some (w.heap.size+1))] 177)).heap.size=w.heap.size+3:=by simp
 refine⟨fun k=>k=w.heap.size∨k=w.heap.size+1∨k=w.heap.size+1+1,w.heap.size+1+1,rfl,b,⟨w.heap.size,w.heap.size+1,[],[],fun _=>0,fun _=>0,fun _=>[], ?_⟩, ?_⟩
 ·refine⟨i3, ?_, ?_,List.Pairwise.nil,List.Pairwise.nil,fun _=>rfl,fun _=>rfl,fun _ _ h=>(by cases h),fun _ _ _=>rfl,fun _ _ _ _ h=>(by cases h),fun _ _ h=>(by cases h),(by omega),Nat.le_refl _,Nat.le_refl _,Or.inr (Or.inr rfl),Or.inl rfl,Or.inr (Or.inl rfl),fun _ _ h=>by cases h⟩
  ·refine ay g ?_
   rw[f,heap_alloc_new]
  ·refine ay i ?_
   rw[i2];have h:=heap_alloc_new (w.alloc (.map #[] 0)) (.map #[] 0);rw[World.size_alloc]at h;exact h.symm
 ·rintro k (rfl | rfl | rfl)
  all_goals rw[a]
  all_goals omega
theorem D4(w:World)(nm id ky:Bs)(B:Nat)(v:Value)(xs:List Bs)(row:w.ownsRow B 9 1 v xs.length (xs.map fun s=>.string ⟨s.toArray⟩))(hn:xs.length≤1100000000):
  Calls prog 28 #[.string ⟨nm.toArray⟩,.string ⟨id.toArray⟩,.string ⟨ky.toArray⟩,v] w fun e w'=>∃F nb,e=.returned (.pointer (some ⟨nb,0,none⟩))∧Kp (fun _=>False) w w'∧PN w' F nb nm id ky xs Ldg.zero 0∧(∀k,F k→w.heap.size≤k):=by
 have q:Hid (∀X,Kp (fun _=>False) w X→Calls prog 54 #[v] X fun e w'=>∃v',e=.returned v'∧Kp (fun _=>False) X w'∧w'.ownsRow X.heap.size 9 1 v' xs.length (xs.map fun s=>.string ⟨s.toArray⟩)):=fun X hX=>BA X B v xs (an row hX (by simp)) hn
 obtain⟨D,E,rfl⟩:=aE row;clear row;go_enter func28,ntmps28;go_wp2_with fail
 refine (q.o w (Kp.refl _ _)).mono ?_;rintro e w1 ⟨C,rfl,r,a⟩;obtain⟨d,f,rfl⟩:=aE a;have m:=ae a;have g:=ae r;clear a r q;go_wp2_with fail
 refine (vp w1).mono ?_;rintro e w2 ⟨p,u,rfl,t,j,i⟩;have b:=ae (An t (An j i));clear t j i;go_wp2;go_ret;have n:Kp (fun _=>False) w2 (w2.alloc (.cells #[.string ⟨nm.toArray⟩,.string ⟨id.toArray⟩,.string ⟨ky.toArray⟩,.slice d xs.length f,.pointer (some ⟨u,0,none⟩)] 100)):=(Kp.refl _ _).alloc _;have l:=an m.o (b.o.1.trans n) (by simp);have x:=g.o.size;have y:=b.o.1.size;refine⟨fun k=>p k∨k=w2.heap.size∨(Value.slice d xs.length f).ownBlock=some k,w2.heap.size,rfl,(g.o.trans b.o.1).trans n,⟨p,u,.slice d xs.length f, ?_⟩, ?_⟩
 ·refine⟨heap_alloc_new w2 _,b.o.2.1.kp (fun k h=>(b.o.2.2 k h).2) n,cr (Nat.zero_le _) l,Or.inr (Or.inl rfl), ?_,fun _ h=>Or.inl h, ?_, ?_⟩
  ·intro k e
   refine⟨Or.inr (Or.inr e),fun c=> ?_⟩;have z:=(b.o.2.2 k c).1;have A:=(m.o.lt k e).2;omega
  ·intro c
   have:=(b.o.2.2 _ c).2;omega
  ·rw[World.size_alloc]
   rintro k (c | rfl | e)
   ·have:=(b.o.2.2 k c).2
    omega
   ·omega
   ·have:=(m.o.lt k e).2
    omega
 ·rintro k (c | rfl | e)
  ·have:=(b.o.2.2 k c).1
   omega
  ·omega
  ·exact (m.o.lt k e).1
end
section
open Go Go.RowKit Go.Maps
attribute [local go_sem] Oper.semAt_some
theorem Cs{w:World}{rb:Nat}{nm id ky:Bs}{so:Value}(h:w.heap[rb]? =some (bm nm id ky so (.slice none 0 0) (.slice none 0 0) (.slice none 0 0))):RN w (fun k=>k=rb) rb nm id ky so Ldg.zero 0:=
 ⟨_,_,_,[],[],[],⟨h,World.ownsRow_nil _ _ _ _,World.ownsRow_nil _ _ _ _,World.ownsRow_nil _ _ _ _⟩,⟨fun _ _=>rfl,fun _=>rfl,fun _=>rfl,List.nodup_nil,List.nodup_nil,List.nodup_nil⟩,Nat.le_refl _,Nat.le_refl _,Nat.le_refl _,rfl,fun k h=>by rcases h with h | h | h <;> cases h⟩
theorem xG(w:World)(nm id ky:Bs)(xs:List Bs)(va:Option Addr)(vc:Nat)(hn:va=none→xs.length=0∧vc=0)(hcell:∀ad,va=some ad→∀j u,(xs.map fun s=>Value.string ⟨s.toArray⟩)[j]? =some u→w.cell? (ad.add j)=some u)(hx:xs.length≤1100000000):
  Calls prog 50 #[.string ⟨nm.toArray⟩,.string ⟨id.toArray⟩,.string ⟨ky.toArray⟩,.slice va xs.length vc] w fun e w'=>∃(F:Nat→Prop) (pb:Nat),e=.returned (.pointer (some ⟨pb,0,none⟩))∧Kp (fun _=>False) w w'∧PR w' F pb nm id ky xs (.slice va xs.length vc) Ldg.zero 0∧(∀k,F k→w.heap.size≤k):=by
 obtain⟨i0,Z,L,M,c⟩:=info_parts ew;have f:∀ad,va=some ad→∀j u,(xs.map fun s=>Value.string ⟨s.toArray⟩)[j]? =some u→(w.alloc (.cells #[] 9)).cell? (ad.add j)=some u:=fun ad h j u v=>((Kp.refl _ w).alloc _).cel (hcell ad h j u v)
 have l:∀u ∈ (xs.map fun s=>Value.string ⟨s.toArray⟩),u.oneCell'=true:=by
  intro u v;obtain⟨s,_,rfl⟩:=List.mem_map.1 v;rfl
 have T:=World.ownsRow_lit (base:=w.heap.size) (e:=9) (size:=1) w #[] 0 (Nat.le_refl _) (Nat.zero_le _) rfl;have B:=ae (An f (An l (An T hn)));clear f l T hcell hn;go_enter func50,ntmps50;go_wp2_with (at_builtin;(refine aQ _ rfl _ _ 36 rfl w.heap.size 9 i0 (.string ⟨#[]⟩) 1 16 underlying36 Z L M c rfl (by decide) _ _ _ rfl B.o.2.2.1 va xs.length vc (xs.map fun s=>Value.string ⟨s.toArray⟩) rfl (by simp) B.o.2.2.2 B.o.1 B.o.2.1 (by unfold maxLen;omega) (by omega) (by simp) ?_))
 intro v1 w1 U V y3;have O:Kp (fun _=>False) w w1:=((Kp.refl _ w).alloc _).gr V (fun r e=>by have:=Option.some.inj (show some w.heap.size=some r from e);omega);have N:w1.ownsRow w.heap.size 9 1 v1 xs.length (xs.map fun s=>Value.string ⟨s.toArray⟩):=by simpa using U
 obtain⟨S,lc,rfl,ab,z⟩:=aY N;have n:=ae (An N (An O z));clear U V y3 O N z;go_wp2_with fail
 refine (D4 w1 nm id ky w.heap.size _ xs n.o.1 hx).mono ?_;rintro e w2 ⟨H,E,rfl,I,y,x⟩;have Q:=n.o.2.1.size;have R:=I.size;have t:=ae (An I (An y x));clear I y x;go_wp2_with fail
 go_loopg [11] xs.length (fun gg q wx=>∃(i:Nat) (G:List Value),gg=xs.length - i∧i≤xs.length∧q=.int .i64 (i:Int)∧wx.ownsRow w.heap.size 9 1 (.slice S xs.length lc) xs.length G∧Kp (fun k=>(Value.slice S xs.length lc).ownBlock=some k) w2 wx)
 case atStart=>exact⟨0,_,rfl,by omega,rfl,an n.o.1 t.o.1 (by simp),Kp.refl _ _⟩
 case round=>
  obtain⟨i,G,d,aa,rfl,row,C⟩:=hrel;by_cases ac:i < xs.length
  ·have A:(i:Int) < (xs.length:Int):=by omega
   obtain⟨g,rfl,_⟩:=n.o.2.2 (by omega);have m4:=row.frozenAt i;have K:=row.1;obtain⟨u,v⟩:∃u,G[i]? =some u:=⟨G[i]'(by omega),List.getElem?_eq_getElem (by omega)⟩;have m5:wr.cell? ⟨g,i,none⟩=some u:=aL row i u v;have m:=ae (An d (An row C));clear d row C v K;go_wp2;go_roundg (xs.length - (i+1))
   all_goals first
    | (rw[m.o.1];omega)
    |exact⟨i+1,_,rfl,by omega,ak (by omega),(m.o.2.1.stored i _).1,m.o.2.2.setCell (p:=⟨g,i,none⟩) (fun _=>rfl) _⟩
  ·have A:¬(i:Int) < (xs.length:Int):=by omega
   have m:=ae (An d (An row C));clear d row C;go_wp2;go_ret;have W:Kp (fun _=>False) w wr:=(n.o.2.1.trans t.o.1).and m.o.2.2 (fun q hq e=>by have:=(n.o.1.lt q e).1;omega);have af:=m.o.2.2.size
   have b:∀k,H k→k < w2.heap.size:=by
    obtain⟨Fk,kb,so,h⟩:=t.o.2.1;exact h.lt
   have Y:=heap_alloc_new wr (bm nm id ky (.slice va xs.length vc) (.slice none 0 0) (.slice none 0 0) (.slice none 0 0));have P:=heap_alloc_new (wr.alloc (bm nm id ky (.slice va xs.length vc) (.slice none 0 0) (.slice none 0 0) (.slice none 0 0))) (.cells #[.pointer (some ⟨E,0,none⟩),.pointer (some ⟨wr.heap.size,0,none⟩)] 90);have D:(wr.alloc (bm nm id ky (.slice va xs.length vc) (.slice none 0 0) (.slice none 0 0) (.slice none 0 0))).heap.size=wr.heap.size+1:=by simp
   have c:((wr.alloc (bm nm id ky (.slice va xs.length vc) (.slice none 0 0) (.slice none 0 0) (.slice none 0 0))).alloc (.cells #[.pointer (some ⟨E,0,none⟩),.pointer (some ⟨wr.heap.size,0,none⟩)] 90)).heap.size=wr.heap.size+2:=by simp
   rw[D]at P;have hr:((wr.alloc (bm nm id ky (.slice va xs.length vc) (.slice none 0 0) (.slice none 0 0) (.slice none 0 0))).alloc (.cells #[.pointer (some ⟨E,0,none⟩),.pointer (some ⟨wr.heap.size,0,none⟩)] 90)).heap[wr.heap.size]? =_:=(Below.heap_alloc _ _ _ (by rw[D];omega)).trans Y;unfold bm at D c;refine⟨fun k=>H k∨k=wr.heap.size∨k=wr.heap.size+1,wr.heap.size+1,rfl,(W.alloc _).alloc _,⟨H,fun k=>k=wr.heap.size,E,wr.heap.size,P, ?_,Cs hr, ?_, ?_,Or.inr (Or.inr rfl), ?_⟩, ?_⟩
   ·refine t.o.2.1.frame (by rw[c];omega) (fun k a=> ?_)
    have J:=b k a;have X:=t.o.2.2 k a;rw[Below.heap_alloc _ _ _ (by rw[D];omega),Below.heap_alloc _ _ _ (by omega)];exact m.o.2.2.block k J (fun e=>by have:=(n.o.1.lt k e).2;omega)
   ·intro k a
    have J:=b k a;exact⟨Or.inl a,by omega,by omega⟩
   ·intro k a
    exact⟨Or.inr (Or.inl a),by omega⟩
   ·intro k a
    rw[c];rcases a with a | a | a
    ·have J:=b k a
     omega
    ·omega
    ·omega
   ·intro k a
    rcases a with a | a | a
    ·have X:=t.o.2.2 k a
     omega
    ·omega
    ·omega
end
end Go.Proofs.YtocligpfmfmihaaGreatDoor
