import Derived.Test.YtocligpfmfmihaaGreatDoorLaw3G
set_option maxHeartbeats 4000000
set_option maxRecDepth 20000
namespace Go.Proofs.YtocligpfmfmihaaGreatDoor
open Go.Proofs.Tryz
section
open Go Go.RowKit Go.Maps Go.WideMaps Go.MuLone
attribute [local go_sem] Oper.semAt_some
theorem CN(W:World)(hN:NG3 W)(hG:GL W)(hSg:jC W)(w:World)(hW:Below W.heap.size W w)(F:Nat→Prop)(hFl:∀k,F k→W.heap.size≤k)(pb:Nat)(nm id ky:Bs)(srcs:List Bs)(so:Value)(st:Ldg)(c:Nat)(hP:PR w F pb nm id ky srcs so st c)(h1:nm.length≤2000000)(h2:id.length≤2000000)(h3:ky.length≤2000000)
  (kind:Int) (hk:kind≤3) (two:Bool) (s t:Bs) (now:Int) (rp li:Value) (hs:s.length≤2000000) (ht:t.length≤2000000) (hnow : -9223372036854775808≤now) (hc:c≤800000000) (hrp:∃x y z,rp=.slice x y z) (hli:∃x y z,li=.slice x y z) (st':Ldg) (hst:st'=if kind=1 then (bi st s now).2 else st) :
  Calls prog 51 #[.pointer (some ⟨pb,0,none⟩),opV kind two s t now rp li] w fun e w'=>e=.returned (.bool true)∧PrS w F pb nm id ky srcs so st' (c+1200) w':=by
 have r:=ae hst;clear hst;have V:=ae hP;obtain⟨G,S,v,n,hp,hn,hr,h4,h5,h6,h7⟩:=hP;have b:=ae (An hp (An hn (An hr (An h4 (An h5 (An h6 h7))))));obtain⟨P,Q,R,rfl⟩:=hrp;obtain⟨M,N,O,rfl⟩:=hli;have D:w.cell? ⟨pb,0,none⟩=some (.pointer (some ⟨v,0,none⟩)):=by simp[World.cell?,hp]
 have E:w.cell? ⟨pb,1,none⟩=some (.pointer (some ⟨n,0,none⟩)):=by simp[World.cell?,hp]
 have aa:=ag hp;have T:=ae hFl;clear hp hn hr h4 h5 h6 h7 hFl;unfold opV;have K0:Kp (fun _=>False) w (w.alloc (.cells #[.int .i64 kind,.bool two,.string ⟨s.toArray⟩,.string ⟨t.toArray⟩,.int .i64 now,.slice P Q R,.slice M N O] 93)):=(Kp.refl _ _).alloc _;have Z:=heap_alloc_new w (.cells #[.int .i64 kind,.bool two,.string ⟨s.toArray⟩,.string ⟨t.toArray⟩,.int .i64 now,.slice P Q R,.slice M N O] 93);have a:=ae (An K0 Z);clear K0 Z;by_cases k1:kind=1
 ·subst k1
  go_enter func51,ntmps51;go_wp2_with fail
  generalize (w.alloc (.cells #[.int .i64 1,.bool two,.string ⟨s.toArray⟩,.string ⟨t.toArray⟩,.int .i64 now,.slice P Q R,.slice M N O] 93))=wd at *;have I:=a.o.1.cel D;have u:=a.o.1.cel E;obtain⟨A,C,B⟩:=iL a.o.2;have d:=am hW a.o.1.drew;have j:=b.o.2.1.frame (w':=wd.drew) a.o.1.drew.size (fun k hf=>a.o.1.drew.block k (b.o.2.2.2.2.2.2 k (b.o.2.2.2.1 k hf).1) (by simp));have f:=ae (BP W hN wd.drew d G (fun k h=>T.o k (b.o.2.2.2.1 k h).1) v nm id ky srcs st c j s now hnow hc);clear j D E;refine jS ?_ (fun X=>PnR wd.drew G v nm id ky srcs (bi st s now).2 (c+1200) X) ?_ ?_;rotate_left
  ·go_region_law (refine aF rfl 29 _ _ rfl #[.pointer (some ⟨v,0,none⟩),.string ⟨s.toArray⟩,.int .i64 now] (by go_simp) ?_;refine f.o.mono ?_;rintro e w2 ⟨rfl,q⟩)
   all_goals exact fD q
  intro w2 K;have U:=ae (zP K);obtain⟨_,Kn,_,_⟩:=K;have i:=Kn.drew;have ab:=a.o.1.size;have g1:w2.cell? ⟨pb,1,none⟩=some (.pointer (some ⟨n,0,none⟩)):=(Kn.cell (bk u) (fun h=>(b.o.2.2.2.1 pb h).2.2 rfl)).trans u;have Y:¬G w.heap.size:=fun h=>Nat.lt_irrefl _ (b.o.2.2.2.2.2.2 _ (b.o.2.2.2.1 _ h).1)
  have p2:w2.cell? ⟨w.heap.size,2,none⟩=some (.string ⟨s.toArray⟩):=(Kn.cell (bk A) Y).trans A;have p4:w2.cell? ⟨w.heap.size,4,none⟩=some (.int .i64 now):=(Kn.cell (bk B) Y).trans B;have J:Below W.heap.size W w2.drew:=⟨i.os.trans d.os,i.tape.trans d.tape,i.output.trans d.output,Nat.le_trans d.size i.size,fun k hk=>(i.block k (Nat.lt_of_lt_of_le hk d.size) (fun hf=>by have:=T.o k (b.o.2.2.2.1 k hf).1;omega)).trans (d.block k hk)⟩
  have l:=b.o.2.2.1.frame (w':=w2.drew) (fun k hf=>by
    have hl:=b.o.2.2.2.2.2.2 k (b.o.2.2.2.2.1 k hf).1;exact (i.block k (by show k < wd.heap.size;omega) (fun h=>(b.o.2.2.2.1 k h).2.1 hf)).trans (a.o.1.block k hl (by simp)))
  have g:=ae (r7 W hG w2.drew J S (fun k hf=>by
    have hl:=b.o.2.2.2.2.2.2 k (b.o.2.2.2.2.1 k hf).1;have:=i.size;have h8:wd.drew.heap.size=wd.heap.size:=rfl;omega) n nm id ky so st c l s now hnow hc)
  clear I u A C B d J l Kn i Y f;go_wp2_with fail
  refine jS ?_ (fun X=>RnR w2.drew S n nm id ky so (bi st s now).2 (c+1200) X) ?_ ?_;rotate_left
  ·go_region_law (refine aF rfl 84 _ _ rfl #[.pointer (some ⟨n,0,none⟩),.string ⟨s.toArray⟩,.int .i64 now] (by go_simp) ?_;refine g.o.mono ?_;rintro e w3 ⟨rfl,q⟩)
   all_goals exact fD q
  intro w3 L;have p:=ae L;clear L g;go_wp2;go_ret;exact⟨by simp,by rw[r.o,if_pos (by first | trivial | rfl)];exact qj b.o.1 b.o.2.2.2.1 b.o.2.2.2.2.1 b.o.2.2.2.2.2.1 b.o.2.2.2.2.2.2 a.o.1.drew U.o p.o⟩
 by_cases k2:kind=2
 ·subst k2
  go_enter func51,ntmps51;go_wp2_with fail
  generalize (w.alloc (.cells #[.int .i64 2,.bool two,.string ⟨s.toArray⟩,.string ⟨t.toArray⟩,.int .i64 now,.slice P Q R,.slice M N O] 93))=wd at *;have I:=a.o.1.cel D;have u:=a.o.1.cel E;obtain⟨A,C,B⟩:=iL a.o.2;have d:=am hW a.o.1.drew;have j:=b.o.2.1.frame (w':=wd.drew) a.o.1.drew.size (fun k hf=>a.o.1.drew.block k (b.o.2.2.2.2.2.2 k (b.o.2.2.2.1 k hf).1) (by simp));have f:=ae (D1 wd.drew G v nm id ky srcs st c j s t hs ht now);obtain⟨mv,hmv⟩:∃mv:Bs,(bT st s t now).getD []=mv:=⟨_,rfl⟩;obtain⟨mb,hmb⟩:∃mb:Bool,(bT st s t now).isSome=mb:=⟨_,rfl⟩;rw[hmv,hmb]at f;clear j D E;refine jS ?_ (fun X=>Kp (fun _=>False) wd.drew X) ?_ ?_;rotate_left
  ·go_region_law (refine aF rfl 32 _ _ rfl #[.pointer (some ⟨v,0,none⟩),.string ⟨s.toArray⟩,.string ⟨t.toArray⟩,.int .i64 now] (by go_simp) ?_;refine f.o.mono ?_;rintro e w2 ⟨rfl,q⟩)
   all_goals exact fD q
  intro w2 Kn;have m:=ae (a.o.1.drew.trans Kn);have g1:w2.cell? ⟨pb,1,none⟩=some (.pointer (some ⟨n,0,none⟩)):=Kn.cel u;have p2:w2.cell? ⟨w.heap.size,2,none⟩=some (.string ⟨s.toArray⟩):=Kn.cel A;have p3:w2.cell? ⟨w.heap.size,3,none⟩=some (.string ⟨t.toArray⟩):=Kn.cel C;have p4:w2.cell? ⟨w.heap.size,4,none⟩=some (.int .i64 now):=Kn.cel B;have l:=b.o.2.2.1.frame (w':=w2.drew) (fun k hf=>m.o.drew.block k (b.o.2.2.2.2.2.2 k (b.o.2.2.2.2.1 k hf).1) (by simp));have g:=ae (r8 w2.drew S n nm id ky so st c l s t now);rw[hmv,hmb]at g;clear hmv hmb;clear I u A C B d l Kn f;go_wp2_with fail
  refine jS ?_ (fun X=>Kp (fun _=>False) w2.drew X) ?_ ?_;rotate_left
  ·go_region_law (refine aF rfl 85 _ _ rfl #[.pointer (some ⟨n,0,none⟩),.string ⟨s.toArray⟩,.string ⟨t.toArray⟩,.int .i64 now] (by go_simp) ?_;refine g.o.mono ?_;rintro e w3 ⟨rfl,rfl⟩;have q:=Kp.refl (fun _=>False) w2.drew)
   all_goals exact fD q
  intro w3 H;have p:=ae (m.o.drew.trans H);clear H g;go_wp2;go_ret;exact⟨by simp,by rw[r.o,if_neg (by decide)];exact nv V.o p.o (by omega)⟩
 by_cases k3:kind=3
 ·subst k3
  go_enter func51,ntmps51;go_wp2_with fail
  generalize (w.alloc (.cells #[.int .i64 3,.bool two,.string ⟨s.toArray⟩,.string ⟨t.toArray⟩,.int .i64 now,.slice P Q R,.slice M N O] 93))=wd at *;have I:=a.o.1.cel D;have u:=a.o.1.cel E;obtain⟨A,C,B⟩:=iL a.o.2;have d:=am hW a.o.1.drew;have j:=b.o.2.1.frame (w':=wd.drew) a.o.1.drew.size (fun k hf=>a.o.1.drew.block k (b.o.2.2.2.2.2.2 k (b.o.2.2.2.1 k hf).1) (by simp));have f:Hid (Calls prog 86 #[.pointer (some ⟨v,0,none⟩),.string ⟨s.toArray⟩] wd.drew fun e w'=>e=.returned (.tuple #[.string ⟨(cP st nm id ky s).1.toArray⟩,.int .i64 (cP st nm id ky s).2])∧Kp (fun _=>False) wd.drew w'):=yE W hN wd.drew d G (fun k h=>T.o k (b.o.2.2.2.1 k h).1) v nm id ky srcs st c j s hs h1 h2 h3;obtain⟨mv,hmv⟩:∃mv:Bs,(cP st nm id ky s).1=mv:=⟨_,rfl⟩;obtain⟨mb,hmb⟩:∃mb:Nat,(cP st nm id ky s).2=mb:=⟨_,rfl⟩;rw[hmv,hmb]at f;clear j D E;refine jS ?_ (fun X=>Kp (fun _=>False) wd.drew X) ?_ ?_;rotate_left
  ·go_region_law (refine aF rfl 86 _ _ rfl #[.pointer (some ⟨v,0,none⟩),.string ⟨s.toArray⟩] (by go_simp) ?_;refine f.o.mono ?_;rintro e w2 ⟨rfl,q⟩)
   all_goals exact fD q
  intro w2 Kn;have m:=ae (a.o.1.drew.trans Kn);have g1:w2.cell? ⟨pb,1,none⟩=some (.pointer (some ⟨n,0,none⟩)):=Kn.cel u;have p2:w2.cell? ⟨w.heap.size,2,none⟩=some (.string ⟨s.toArray⟩):=Kn.cel A;have p3:w2.cell? ⟨w.heap.size,3,none⟩=some (.string ⟨t.toArray⟩):=Kn.cel C;have p4:w2.cell? ⟨w.heap.size,4,none⟩=some (.int .i64 now):=Kn.cel B;have l:=b.o.2.2.1.frame (w':=w2.drew) (fun k hf=>m.o.drew.block k (b.o.2.2.2.2.2.2 k (b.o.2.2.2.2.1 k hf).1) (by simp));have g:Hid (Calls prog 87 #[.pointer (some ⟨n,0,none⟩),.string ⟨s.toArray⟩] w2.drew fun e w'=>e=.returned (.tuple #[.string ⟨(cP st nm id ky s).1.toArray⟩,.int .i64 (cP st nm id ky s).2])∧Kp (fun _=>False) w2.drew w'):=xK W hG hSg w2.drew (am hW m.o.drew) S n nm id ky so st c l s h1 h2 h3;rw[hmv,hmb]at g;clear hmv hmb;clear I u A C B d l Kn f;go_wp2_with fail
  refine jS ?_ (fun X=>Kp (fun _=>False) w2.drew X) ?_ ?_;rotate_left
  ·go_region_law (refine aF rfl 87 _ _ rfl #[.pointer (some ⟨n,0,none⟩),.string ⟨s.toArray⟩] (by go_simp) ?_;refine g.o.mono ?_;rintro e w3 ⟨rfl,q⟩)
   all_goals exact fD q
  intro w3 H;have p:=ae (m.o.drew.trans H);clear H g;go_wp2;go_ret;exact⟨by simp,by rw[r.o,if_neg (by decide)];exact nv V.o p.o (by omega)⟩
 have k4:kind≠4:=by omega
 have k5:kind≠5:=by omega
 go_enter func51,ntmps51;go_wp2;go_ret;exact⟨rfl,by rw[r.o,if_neg k1];exact nv V.o a.o.1 (by omega)⟩
end
end Go.Proofs.YtocligpfmfmihaaGreatDoor
