import Derived.Test.YtocligpfmfmihaaGreatDoorPr2G
set_option maxHeartbeats 4000000
set_option maxRecDepth 20000
namespace Go.Proofs.YtocligpfmfmihaaGreatDoor
open Go.Proofs.Tryz
section
open Go Go.RowKit
inductive ErrCode (W:World) (a:Addr) (ks:List (Lk×ByteArray)):Nat→Prop
 |doc (p:Lk×ByteArray):ks.find? (fun p=>p.1 == Lk.doc)=some p→ErrCode W a ks 4
 |conf:ks.find? (fun p=>p.1 == Lk.doc)=none→W.cell? ⟨2,0,none⟩=some (ax a)→ErrCode W a ks 6
 |evt (p:Lk×ByteArray):ks.find? (fun p=>p.1 == Lk.doc)=none→W.cell? ⟨2,0,none⟩≠some (ax a)→ks.find? (fun p=>p.1 == Lk.evt)=some p→ErrCode W a ks 7
 |unk:ks.find? (fun p=>p.1 == Lk.doc)=none→W.cell? ⟨2,0,none⟩≠some (ax a)→ks.find? (fun p=>p.1 == Lk.evt)=none→W.cell? ⟨3,0,none⟩=some (ax a)→ErrCode W a ks 8
 |other:ks.find? (fun p=>p.1 == Lk.doc)=none→W.cell? ⟨2,0,none⟩≠some (ax a)→ks.find? (fun p=>p.1 == Lk.evt)=none→W.cell? ⟨3,0,none⟩≠some (ax a)→ErrCode W a ks 5
def Chd(W w:World)(ev:Value)(n:Nat):Prop:=∃a ks,Chn w a ks ev∧(∃c t,W.heap[a.block]? =some (.cells c t))∧W.cell? ⟨0,0,none⟩≠some (ax a)∧W.cell? ⟨1,0,none⟩≠some (ax a)∧ErrCode W a ks n
theorem wI(W:World)(hN:NG2 W)(w:World)(hW:Below W.heap.size W w)(ev:Value)(n:Nat)(hh:Chd W w ev n):
  Calls prog 35 #[ev] w fun e w'=>e=.returned (.int .i64 n)∧Kp (fun _=>False) w w':=by
 obtain⟨a,j,A,⟨ca,ta,E⟩,hl,ho,hn⟩:=hh;obtain⟨N,cl,tl,y,G⟩:=hN.lay 0 (by simp[bh]);obtain⟨O,co,X,z,H⟩:=hN.lay 1 (by simp[bh]);obtain⟨B,cc,tc,b,F⟩:=hN.lay 2 (by simp[bh]);obtain⟨C,cu,tu,c,I⟩:=hN.lay 3 (by simp[bh]);have n1:a≠N:=by rintro rfl;exact hl y
 have n2:a≠O:=by rintro rfl;exact ho z
 have f:Hid (∀w',Kp (fun _=>False) w w'→Chn w' a j ev∧w'.heap[a.block]? =some (.cells ca ta)∧w'.heap[N.block]? =some (.cells cl tl)∧w'.heap[O.block]? =some (.cells co X)∧w'.heap[B.block]? =some (.cells cc tc)∧w'.heap[C.block]? =some (.cells cu tu)):=
  fun w' hk=>⟨A.kp hk,hk.heap (Below.hp hW E),hk.heap (Below.hp hW G),hk.heap (Below.hp hW H),hk.heap (Below.hp hW F),hk.heap (Below.hp hW I)⟩
 have v:Hid (∀w',Kp (fun _=>False) w w'→w'.cell? ⟨0,0,none⟩=some (ax N)∧w'.cell? ⟨1,0,none⟩=some (ax O)∧w'.cell? ⟨2,0,none⟩=some (ax B)∧w'.cell? ⟨3,0,none⟩=some (ax C)∧w'.cell? ⟨9,0,none⟩=some (.iface 289 ((Value.agg #[Value.pointer (some (Addr.mk 31 61 none))])))):=
  fun w' hk=>⟨hk.cel (Below.cl hW y),hk.cel (Below.cl hW z),hk.cel (Below.cl hW b),hk.cel (Below.cl hW c),hk.cel (Below.cl hW hN.ng.ety)⟩
 have J:W.cell? ⟨2,0,none⟩=some (ax a)↔B=a:=by
  rw[b];constructor
  ·intro h
   unfold ax at h;injection h with h
   injection h with _ h
   injection h with h
   injection h
  ·rintro rfl;rfl
 have K:W.cell? ⟨3,0,none⟩=some (ax a)↔C=a:=by
  rw[c];constructor
  ·intro h
   unfold ax at h;injection h with h
   injection h with _ h
   injection h with h
   injection h
  ·rintro rfl;rfl
 have q:=ae (An hn (An J K));have r:=eo w;obtain⟨i1,i2,i3⟩:=lU w (.cells #[.pointer none] 116) (.cells #[.pointer none] 117) (.cells #[.pointer none] 118);have L:w3 w=((w.alloc (.cells #[.pointer none] 116)).alloc (.cells #[.pointer none] 117)).alloc (.cells #[.pointer none] 118):=rfl;have R:=(v.o _ r).1;obtain⟨t0,u0,T⟩:=A.iface;clear A E G H F I y z b c hl ho hn J K;subst T;rw[L]at r R;clear L;unfold ax at R;go_enter func35,ntmps35;go_wp2_with fail
 generalize (((w.alloc (.cells #[.pointer none] 116)).alloc (.cells #[.pointer none] 117)).alloc (.cells #[.pointer none] 118))=w1 at *;refine (qD w1 a N j _ (f.o _ r).1 n1 _ _ _ _ (f.o _ r).2.1 (f.o _ r).2.2.1).mono ?_;rintro e w' ⟨rfl,rfl⟩;go_wp2_with fail
 refine (C6 _ a j _ (f.o _ r).1 w.heap.size _ (v.o _ r).2.2.2.2 i1).mono ?_;rintro e w2 ⟨P,x⟩;replace x:e=.returned (.bool false):=x;subst x;have u:Kp (fun _=>False) w w2:=r.and P (by intro i hi e;omega);have j2:=(P.block _ (ag i2) (by omega)).trans i2;have U:=(P.block _ (ag i3) (by omega)).trans i3;have Y:=(v.o _ u).2.1;unfold ax at Y;clear P i1 i2 i3 R r;go_wp2_with fail
 refine (qD _ a O j _ (f.o _ u).1 n2 _ _ _ _ (f.o _ u).2.1 (f.o _ u).2.2.2.1).mono ?_;rintro e w' ⟨rfl,rfl⟩;go_wp2_with fail
 refine (C4 _ a j _ (f.o _ u).1 (w.heap.size+1) _ (v.o _ u).2.2.2.2 j2).mono ?_;rintro e w3 ⟨V,s⟩;have g:Kp (fun _=>False) w w3:=u.and V (by intro i hi e;omega);have M:=(V.block _ (ag U) (by omega)).trans U;have Z:=(v.o _ g).2.2.1;unfold ax at Z;clear V Y u j2 U
 cases hfd:j.find? (fun p=>p.1 == Lk.doc) with
 |some p=>
  rw[hfd]at s;have t:=s.1;subst t;have d:=ae (show n=4 by cases q.o.1 <;> simp_all);have m:=ae g;clear s hfd g;go_wp2;go_ret;rw[d.o];exact⟨rfl,m.o⟩
 |none=>
  rw[hfd]at s;replace s:e=.returned (.bool false):=s;subst s;have l:=ae hfd;clear hfd;go_wp2_with fail
  by_cases b:B=a
  ·have d:=ae (show n=6 by
     have S:=q.o.2.1.2 b;have x:=l.o;cases q.o.1 <;> simp_all)
   subst b;refine (Ay _ B j _ (f.o _ g).1).mono ?_;rintro e w' ⟨rfl,rfl⟩;have m:=ae g;clear g;go_wp2;go_ret;rw[d.o];exact⟨rfl,m.o⟩
  ·refine (qD _ a B j _ (f.o _ g).1 (Ne.symm b) _ _ _ _ (f.o _ g).2.1 (f.o _ g).2.2.2.2.1).mono ?_
   rintro e w' ⟨rfl,rfl⟩;have Q:=ae (fun h=>b (q.o.2.1.1 h));clear b;go_wp2_with fail
   refine (C5 _ a j _ (f.o _ g).1 (w.heap.size+1+1) _ (v.o _ g).2.2.2.2 M).mono ?_;rintro e w4 ⟨k4,t⟩;have k:Kp (fun _=>False) w w4:=g.and k4 (by intro i hi e;omega);have c4:=(v.o _ k).2.2.2.1;unfold ax at c4;clear k4 Z g M
   cases hfe:j.find? (fun p=>p.1 == Lk.evt) with
   |some p=>
    rw[hfe]at t;have h5:=t.1;subst h5
    have d:=ae (show n=7 by
      have S:=Q.o;have x:=l.o;cases q.o.1 <;> simp_all)
    have m:=ae k;clear t hfe k;go_wp2;go_ret;rw[d.o];exact⟨rfl,m.o⟩
   |none=>
    rw[hfe]at t;replace t:e=.returned (.bool false):=t;subst t;have D:=ae hfe;clear hfe;go_wp2_with fail
    by_cases c:C=a
    ·have d:=ae (show n=8 by
       have h0:=Q.o;have S:=q.o.2.2.2 c;have x:=l.o;have s:=D.o;cases q.o.1 <;> simp_all)
     subst c;refine (Ay _ C j _ (f.o _ k).1).mono ?_;rintro e w' ⟨rfl,rfl⟩;have m:=ae k;clear k;go_wp2;go_ret;rw[d.o];exact⟨rfl,m.o⟩
    ·refine (qD _ a C j _ (f.o _ k).1 (Ne.symm c) _ _ _ _ (f.o _ k).2.1 (f.o _ k).2.2.2.2.2).mono ?_
     rintro e w' ⟨rfl,rfl⟩
     have d:=ae (show n=5 by
       have h0:=Q.o;have S:=fun h=>c (q.o.2.2.1 h)
       have x:=l.o;have s:=D.o;cases q.o.1 <;> simp_all)
     have m:=ae k;clear k c;go_wp2;go_ret;rw[d.o];exact⟨rfl,m.o⟩
theorem Ech.chain{W w:World}{ev:Value}(h:Ech W w ev):∃a c,Chn w a c ev∧Plain W a∧∀p ∈ c,p.1=Lk.mem:=by
 induction h with
 |base a h=>exact⟨a,[],.nil,h,by simp⟩
 |mem b s ev hb _ ih=>
  obtain⟨a,c,d,e,f⟩:=ih
  exact⟨a,(.mem,s) :: c,.cons .mem c b s ev hb d,e,by
   intro p hp;rcases List.mem_cons.1 hp with rfl | hp
   ·rfl
   ·exact f p hp⟩
theorem jZ{ks:List (Lk×ByteArray)}(h:∀p ∈ ks,p.1=Lk.mem)(k:Lk)(hk:k≠Lk.mem):ks.find? (fun p=>p.1 == k)=none:=by
 rw[List.find?_eq_none];intro p hp;rw[h p hp];simp[Ne.symm hk]
theorem Ech.sig{W w:World}{ev:Value}(h:Ech W w ev):Chd W w ev 5:=by
 obtain⟨a,e,d,b,c⟩:=h.chain;exact⟨a,e,d,b.1,b.2 _ (by simp[bh]),b.2 _ (by simp[bh]),.other (jZ c _ (by decide)) (b.2 _ (by simp[bh])) (jZ c _ (by decide)) (b.2 _ (by simp[bh]))⟩
theorem Ech.docu{W w:World}{b:Nat}{ev:Value}(h:Ech W w ev)(hb:w.heap[b]? =some (.cells #[ev] 146)):Chd W w (.iface 117 (.pointer (some ⟨b,0,none⟩))) 4:=by
 obtain⟨a,d,e,c,f⟩:=h.chain;exact⟨a,(.doc,⟨#[]⟩) :: d,.cons .doc d b ⟨#[]⟩ ev hb e,c.1,c.2 _ (by simp[bh]),c.2 _ (by simp[bh]),.doc (.doc,⟨#[]⟩) (by simp)⟩
def Enr(W w:World)(ev:Value)(n:Nat):Prop:=EV W w ev n∨Chd W w ev n
theorem jF(W:World)(hN:NG2 W)(w:World)(hW:Below W.heap.size W w)(ev:Value)(n:Nat)(a:Enr W w ev n):
  Calls prog 35 #[ev] w fun e w'=>e=.returned (.int .i64 n)∧Kp (fun _=>False) w w':=by
 rcases a with h | h
 ·exact pc W hN.ng w hW ev n h
 ·exact wI W hN w hW ev n h
theorem Chd.up{W w w':World}{ev:Value}{n:Nat}(h:Chd W w ev n)(hk:Kp (fun _=>False) w w'):Chd W w' ev n:=by
 obtain⟨a,d,b,c⟩:=h;exact⟨a,d,b.kp hk,c⟩
end
section
open Go Go.RowKit Go.Maps Go.WideMaps Go.MuLone
attribute [local go_sem] Oper.semAt_some
structure SV(w:World)(sb qb:Nat)(t:Bs)(qm:List (Bs×Value))(f:Bs→Option (Bs×Int)):Prop where
 blk:w.heap[sb]? =some (eJ qb t)
 own:w.ownsMap prog 9 Rv qb qm.length (dm qm)
 srt:Srt qm
 look:∀i,ai i qm=(f i).map kkV
theorem SV.frame{w w':World}{sb qb:Nat}{t:Bs}{qm:List (Bs×Value)}{f:Bs→Option (Bs×Int)}(h:SV w sb qb t qm f)(h1:w'.heap[sb]? =w.heap[sb]?)(h2:w'.heap[qb]? =w.heap[qb]?):SV w' sb qb t qm f:=
 ⟨h1.trans h.blk,ay h.own h2,h.srt,h.look⟩
theorem SV.kp{w w':World}{sb qb:Nat}{t:Bs}{qm:List (Bs×Value)}{f:Bs→Option (Bs×Int)}(h:SV w sb qb t qm f)(hk:Kp (fun _=>False) w w'):SV w' sb qb t qm f:=
 h.frame (hk.block _ (ag h.blk) (by simp)) (hk.block _ h.own.lt (by simp))
theorem SV.ne{w:World}{sb qb:Nat}{t:Bs}{qm:List (Bs×Value)}{f:Bs→Option (Bs×Int)}(h:SV w sb qb t qm f):qb≠sb:=bw h.own (by exact h.blk)
def fM(now:Int)(f:Bs→Option (Bs×Int))(k:Ky):Bs→Option (Bs×Int):=fun i=>if i=k.id then some (k.key,match f k.id with | some p=>max (bX now k) p.2 | none=>bX now k) else f i
theorem lF{α:Type}(k:Bs)(v:α)(l:List (Bs×α))(i:Bs):ai i (aC k v l)=if i=k then some v else ai i l:=by
 induction l with
 |nil=>simp[aC,ai,eq_comm]
 |cons p l ih=>
  obtain⟨a,x⟩:=p;unfold aC;split
  ·simp only[ai]
   by_cases h:k=i
   ·subst h;simp
   ·rw[if_neg h,if_neg (Ne.symm h)]
  ·split
   ·rename_i e
    subst e;simp only[ai];by_cases h:a=i
    ·subst h;simp
    ·rw[if_neg h,if_neg (Ne.symm h),if_neg h]
   ·rename_i hlt hne
    simp only[ai];by_cases h:a=i
    ·subst h
     rw[if_pos rfl,if_pos rfl,if_neg hne]
    ·rw[if_neg h,if_neg h,ih]
theorem mZ{α:Type}(k:Bs)(v:α)(l:List (Bs×α)):(aC k v l).length≤l.length+1:=by
 induction l with
 |nil=>simp[aC]
 |cons p l ih=>
  obtain⟨a,x⟩:=p;unfold aC;split
  ·simp
  ·split
   ·simp
   ·simp;omega
theorem qw{w w1 w9:World}{sb qb:Nat}{t:Bs}{qm:List (Bs×Value)}{f:Bs→Option (Bs×Int)}{k:Ky}{now tl:Int}(K:Kp (fun _=>False) w w1)(hs:SV w1 sb qb t qm f)(o9:w9.ownsMap prog 9 Rv qb (qm.length+1) (dm (aC k.id (.agg #[.string ⟨k.key.toArray⟩,.int .i64 tl]) qm)))(g9:w1.drew.grownBy w9 (some qb))(ht:tl=match f k.id with | some p=>max (bX now k) p.2 | none=>bX now k):
  Ending.returned (.tuple #[])=.returned (.tuple #[])∧Kp (fun j=>j=qb) w w9∧∃qm',SV w9 sb qb t qm' (fM now f k)∧qm'.length≤qm.length+1:=by
 refine⟨rfl, ?_,aC k.id (.agg #[.string ⟨k.key.toArray⟩,.int .i64 tl]) qm,⟨?_,d9 o9,gC _ _ _ hs.srt, ?_⟩,mZ _ _ _⟩
 ·exact ((K.mono (fun _ _ h=>h.elim)).drew).grown g9 (fun j e _=>by cases e;rfl)
 ·have b:=hs.ne
  rw[g9.block sb (ag hs.blk) (by intro e;injection e with e;exact b e.symm)];exact hs.blk
 ·intro i
  rw[lF,hs.look];unfold fM;by_cases a:i=k.id
  ·rw[if_pos a,if_pos a,←ht]
   rfl
  ·rw[if_neg a,if_neg a]
theorem CP(w:World)(sb qb:Nat)(t:Bs)(qm:List (Bs×Value))(f:Bs→Option (Bs×Int))(hs:SV w sb qb t qm f)(k:Ky)(hk:k.id.length≤2000000)(hq:qm.length≤1000000000)(now:Int):
  Calls prog 99 #[.pointer (some ⟨sb,0,none⟩),.agg (kyC k).toArray,.int .i64 (bX now k)] w fun e w'=>e=.returned (.tuple #[])∧Kp (fun j=>j=qb) w w'∧∃qm',SV w' sb qb t qm' (fM now f k)∧qm'.length≤qm.length+1:=by
 unfold kyC;have q:Kp (fun _=>False) w (w.alloc (.cells #[.string ⟨k.id.toArray⟩,.string ⟨k.key.toArray⟩,.bool k.old,.int .i64 k.till] 35)):=(Kp.refl _ _).alloc _;have d:=hs.kp q;obtain⟨z,A,_⟩:=fd d.blk;have n:=heap_alloc_new w (.cells #[.string ⟨k.id.toArray⟩,.string ⟨k.key.toArray⟩,.bool k.old,.int .i64 k.till] 35);obtain⟨u,v,x,y,_,_,_,_,s⟩:=ey n;go_enter func99,ntmps99;go_wp2_with fail
 generalize (w.alloc (.cells #[.string ⟨k.id.toArray⟩,.string ⟨k.key.toArray⟩,.bool k.old,.int .i64 k.till] 35))=w0 at *;have b:=gG underlying180 sK w0.drew qm qb qm.length k.id (by omega) (ay d.own rfl);have c:=gG underlying180 sK (w0.alloc (.cells #[.string ⟨#[]⟩,.int .i64 0] 199)).drew qm qb qm.length k.id (by omega) (ay d.own (by exact Below.heap_alloc w0 _ _ d.own.lt));rw[d.look]at b c;have G:=ag d.blk;have E:=ae d;clear d hs
 cases hf:f k.id with
 |none=>
  rw[hf]at b c;replace b:(Instr.lookup 180 (.map (some qb)) (.string ⟨k.id.toArray⟩) true).run prog w0.drew=.ok (.tuple #[.agg #[.string ⟨#[]⟩,.int .i64 0],.bool false]) w0.drew:=b;replace c:(Instr.lookup 180 (.map (some qb)) (.string ⟨k.id.toArray⟩) true).run prog (w0.alloc (.cells #[.string ⟨#[]⟩,.int .i64 0] 199)).drew=.ok (.tuple #[.agg #[.string ⟨#[]⟩,.int .i64 0],.bool false]) (w0.alloc (.cells #[.string ⟨#[]⟩,.int .i64 0] 199)).drew:=c;go_region
  all_goals
   have h:Kp (fun _=>False) w0 (w0.alloc (.cells #[.string ⟨#[]⟩,.int .i64 0] 199)).drew:=((Kp.refl _ _).alloc _).drew;have a:=E.o.kp h;have C:=h.heap n;have B:=ae (q.trans h);go_wp2;generalize (w0.alloc (.cells #[.string ⟨#[]⟩,.int .i64 0] 199)).drew=w1 at *;clear z A u v x y b c n q h;obtain⟨z,A,_⟩:=fd a.blk;obtain⟨u,v,x,y,_,_,_,_,s⟩:=ey C;obtain⟨H,D,l,r⟩:=(show w1.drew.ownsMap prog 9 Rv qb qm.length (dm qm) from ay a.own rfl).update ed underlying180 (by unfold maxLen;omega) (dj (show k.id.length≤139000000000000 by omega)) (show Rv (.agg #[.string ⟨k.key.toArray⟩,.int .i64 (bX now k)])=some (.held (.agg #[.string ⟨k.key.toArray⟩,.int .i64 (bX now k)]),[]) from rfl);rw[iB k.id _ qm a.srt]at l;have g:=ae (An a (An l (An r hf)));clear a l r hf;go_region
   all_goals go_wp2
   all_goals go_end0
   all_goals exact qw B.o g.o.1 g.o.2.1 g.o.2.2.1 (by rw[g.o.2.2.2])
 |some p=>
  obtain⟨m,i⟩:=p;rw[hf]at b c;replace b:(Instr.lookup 180 (.map (some qb)) (.string ⟨k.id.toArray⟩) true).run prog w0.drew=.ok (.tuple #[.agg #[.string ⟨m.toArray⟩,.int .i64 i],.bool true]) w0.drew:=b;replace c:(Instr.lookup 180 (.map (some qb)) (.string ⟨k.id.toArray⟩) true).run prog (w0.alloc (.cells #[.string ⟨#[]⟩,.int .i64 0] 199)).drew=.ok (.tuple #[.agg #[.string ⟨m.toArray⟩,.int .i64 i],.bool true]) (w0.alloc (.cells #[.string ⟨#[]⟩,.int .i64 0] 199)).drew:=c;go_region
  all_goals
   have h:Kp (fun _=>False) w0 (w0.alloc (.cells #[.string ⟨m.toArray⟩,.int .i64 i] 199)).drew:=((Kp.refl _ _).alloc _).drew;have F:(w0.alloc (.cells #[.string ⟨m.toArray⟩,.int .i64 i] 199)).drew.heap[w0.heap.size]? =some (.cells #[.string ⟨m.toArray⟩,.int .i64 i] 199):=heap_alloc_new w0 _;have a:=E.o.kp h;have C:=h.heap n;have B:=ae (q.trans h);obtain⟨I,J⟩:=jl F;generalize (w0.alloc (.cells #[.string ⟨m.toArray⟩,.int .i64 i] 199)).drew=w1 at *;clear z A u v x y b c n q h;obtain⟨z,A,_⟩:=fd a.blk;obtain⟨u,v,x,y,_,_,_,_,s⟩:=ey C;obtain⟨H,D,l,r⟩:=(show w1.drew.ownsMap prog 9 Rv qb qm.length (dm qm) from ay a.own rfl).update ed underlying180 (by unfold maxLen;omega) (dj (show k.id.length≤139000000000000 by omega)) (show Rv (.agg #[.string ⟨k.key.toArray⟩,.int .i64 (max (bX now k) i)])=some (.held (.agg #[.string ⟨k.key.toArray⟩,.int .i64 (max (bX now k) i)]),[]) from rfl);rw[iB k.id _ qm a.srt]at l;have g:=ae (An a (An l (An r hf)));clear a l r hf;go_wp2;go_region
   all_goals go_wp2
   all_goals go_end0
   all_goals exact qw B.o g.o.1 g.o.2.1 g.o.2.2.1 (by rw[g.o.2.2.2])
structure NG3(W:World):Prop where
 n2:NG2 W
 dis:∀g ∈ bh,∀g' ∈ bh,g≠g'→∀a,W.cell? ⟨g,0,none⟩=some (ax a)→W.cell? ⟨g',0,none⟩≠some (ax a)
 oth:∀g ∈ [11,6],∃a,W.cell? ⟨g,0,none⟩=some (ax a)∧Plain W a
def cf(f:Bs→Option (Bs×Int))(k:Ky):Bool:=match f k.id with | some p=>decide (p.1≠k.key) | none=>false
def CcR(W w:World)(b:Bool)(e:Ending)(w':World):Prop:=Kp (fun _=>False) w w'∧((b=false∧e=.returned .nilIface)∨(b=true∧∃ev,e=.returned ev∧Chd W w' ev 6∧∃t u,ev=.iface t u))
theorem yN{W w:World}(hN:NG3 W){a:Addr}(ha:W.cell? ⟨2,0,none⟩=some (ax a)){b:Nat}{s:ByteArray}(hb:w.heap[b]? =some (.cells #[.string s,ax a] 252)):Chd W w (.iface 250 (.pointer (some ⟨b,0,none⟩))) 6:=by
 obtain⟨f,c,t,d,e⟩:=hN.n2.lay 2 (by simp[bh]);rw[ha]at d;unfold ax at d;injection d with d
 injection d with _ d
 injection d with d
 injection d with d
 subst d;exact⟨a,[(.mem,s)],.cons .mem [] b s _ hb .nil,⟨c,t,e⟩,hN.dis _ (by simp[bh]) _ (by simp[bh]) (by decide) a ha,hN.dis _ (by simp[bh]) _ (by simp[bh]) (by decide) a ha,.conf (by simp) ha⟩
theorem nL(W:World)(hN:NG3 W)(w:World)(hW:Below W.heap.size W w)(sb qb:Nat)(t:Bs)(qm:List (Bs×Value))(f:Bs→Option (Bs×Int))(hs:SV w sb qb t qm f)(B:Nat)(v:Value)(ks:List Ky)(row:w.ownsRow B 35 4 v ks.length (ks.flatMap kyC))(hkl:∀k ∈ ks,k.id.length≤2000000):
  Calls prog 98 #[.pointer (some ⟨sb,0,none⟩),v] w fun e w'=>CcR W w (ks.any (cf f)) e w':=by
 obtain⟨ea,hea⟩:∃ea,W.cell? ⟨2,0,none⟩=some (ax ea):=by
  obtain⟨a,_,_,h,_⟩:=hN.n2.lay 2 (by simp[bh]);exact⟨a,h⟩
 obtain⟨va,vc,rfl,E⟩:=aJ row;have X:=iM row;have G:=ae (An E (An row hkl));have P:=ae hs;clear E row hkl hs;go_enter func98,ntmps98;go_wp2_with fail
 go_loopg [11] ks.length (fun gg a wr=>∃(i:Nat),gg=ks.length - i∧i≤ks.length∧a=.int .i64 (i:Int)∧Kp (fun _=>False) w wr∧∀(j:Nat) (k:Ky),j < i→ks[j]? =some k→cf f k=false)
 case atStart=>exact⟨0,rfl,by omega,rfl,Kp.refl _ _,fun _ _ h=>absurd h (by omega)⟩
 case round=>
  obtain⟨i,A,T,rfl,x,l⟩:=hrel;have F:=ae (An A l);clear A l;by_cases K:i < ks.length
  ·have C:decide ((i:Int) < (ks.length:Int))=true:=by simp;omega
   obtain⟨k,n⟩:∃k,ks[i]? =some k:=⟨ks[i],List.getElem?_eq_getElem K⟩;obtain⟨g,rfl,_⟩:=G.o.1 (by omega);obtain⟨Z,c1,c2,c3⟩:=eC (an G.o.2.1 x (by simp)) i k n;have V:=G.o.2.2 k (List.mem_of_getElem? n);have R:Kp (fun _=>False) wr (wr.alloc (.cells #[.string ⟨k.id.toArray⟩,.string ⟨k.key.toArray⟩,.bool k.old,.int .i64 k.till] 35)):=(Kp.refl _ _).alloc _;have Q:=heap_alloc_new wr (.cells #[.string ⟨k.id.toArray⟩,.string ⟨k.key.toArray⟩,.bool k.old,.int .i64 k.till] 35)
   have next:cf f k=false→∀(j:Nat) (q:Ky),j < i+1→ks[j]? =some q→cf f q=false:=by
    intro L j q N D;rcases Nat.lt_or_ge j i with h | h
    ·exact F.o.2 j q h D
    ·have:j=i:=by omega
     subst this;rw[n]at D;injection D with D
     subst D;exact L
   have y:cf f k=true→ks.any (cf f)=true:=fun h=>List.any_eq_true.2 ⟨k,List.mem_of_getElem? n,h⟩
   have I:=ae (An next y);have H:=x.trans R;have d:=P.o.kp H;have Y:=ag d.blk;obtain⟨s0,s1,_⟩:=fd d.blk;obtain⟨k0,k1,k2,k3,_,_,_,_,U⟩:=ey Q;clear next y n x;go_wp2_with fail
   generalize (wr.alloc (.cells #[.string ⟨k.id.toArray⟩,.string ⟨k.key.toArray⟩,.bool k.old,.int .i64 k.till] 35))=w0 at *;have b:=gG underlying180 sK w0.drew qm qb qm.length k.id (by omega) (ay d.own rfl);have c:=gG underlying180 sK (w0.alloc (.cells #[.string ⟨#[]⟩,.int .i64 0] 199)).drew qm qb qm.length k.id (by omega) (ay d.own (by exact Below.heap_alloc w0 _ _ d.own.lt));rw[d.look]at b c;have r:=ae H;clear d H;have z:=Below.cl (am hW r.o) hea;have S:2 < w0.heap.size:=bk z;unfold ax at z
   cases hf:f k.id with
   |none=>
    rw[hf]at b c;replace b:(Instr.lookup 180 (.map (some qb)) (.string ⟨k.id.toArray⟩) true).run prog w0.drew=.ok (.tuple #[.agg #[.string ⟨#[]⟩,.int .i64 0],.bool false]) w0.drew:=b;replace c:(Instr.lookup 180 (.map (some qb)) (.string ⟨k.id.toArray⟩) true).run prog (w0.alloc (.cells #[.string ⟨#[]⟩,.int .i64 0] 199)).drew=.ok (.tuple #[.agg #[.string ⟨#[]⟩,.int .i64 0],.bool false]) (w0.alloc (.cells #[.string ⟨#[]⟩,.int .i64 0] 199)).drew:=c;have u:=ae (I.o.1 (by unfold cf;rw[hf]));clear hf;go_region
    all_goals go_wp2
    all_goals go_roundg (ks.length - (i+1))
    all_goals first
     | (rw[F.o.1];omega)
     |exact⟨i+1,rfl,by omega,ak (by omega),(r.o.alloc _).drew,u.o⟩
   |some p=>
    obtain⟨s,M⟩:=p;rw[hf]at b c;replace b:(Instr.lookup 180 (.map (some qb)) (.string ⟨k.id.toArray⟩) true).run prog w0.drew=.ok (.tuple #[.agg #[.string ⟨s.toArray⟩,.int .i64 M],.bool true]) w0.drew:=b;replace c:(Instr.lookup 180 (.map (some qb)) (.string ⟨k.id.toArray⟩) true).run prog (w0.alloc (.cells #[.string ⟨#[]⟩,.int .i64 0] 199)).drew=.ok (.tuple #[.agg #[.string ⟨s.toArray⟩,.int .i64 M],.bool true]) (w0.alloc (.cells #[.string ⟨#[]⟩,.int .i64 0] 199)).drew:=c;by_cases m:s=k.key
    ·have J:(s == k.key)=true:=by simpa using m
     have u:=ae (I.o.1 (by unfold cf;rw[hf];simpa using m));clear hf m;go_region
     all_goals go_wp2
     all_goals go_roundg (ks.length - (i+1))
     all_goals first
      | (rw[F.o.1];omega)
      |exact⟨i+1,rfl,by omega,ak (by omega),(r.o.alloc _).drew,u.o⟩
    ·have J:(s == k.key)=false:=by simpa using m
     have u:=ae (I.o.2 (by unfold cf;rw[hf];simpa using m));clear hf m;go_region
     all_goals go_wp2
     all_goals go_ret
     all_goals
      have h:=heap_alloc_new (w0.alloc (.cells #[.string ⟨s.toArray⟩,.int .i64 M] 199)) (.cells #[.string ⟨k.id.toArray⟩,ax ea] 252);rw[World.size_alloc]at h;exact⟨((r.o.alloc _).alloc _).drew,Or.inr ⟨u.o,_,rfl,yN hN hea h,_,_,rfl⟩⟩
  ·have C:decide ((i:Int) < (ks.length:Int))=false:=by simp;omega
   have O:Hid (ks.any (cf f)=false):=by
    show _=_
    rw[List.any_eq_false];intro k n;obtain⟨j,N,m⟩:=List.mem_iff_getElem.1 n;rw[F.o.2 j k (by omega) (by rw[List.getElem?_eq_getElem N,m])];decide
   have r:=ae x;clear x;go_wp2;go_ret;exact⟨r.o,Or.inl ⟨O.o,rfl⟩⟩
end
section
open Go Go.RowKit Go.Maps Go.WideMaps Go.MuLone
structure KNs(w:World)(F:Nat→Prop)(kb mb ib:Nat)(sm im:List (Bs×Value))(Bf Qf:Bs→Nat)(qm:Bs→List (Bs×Value))(st:Ldg)(c:Nat):Prop where
 kblk:w.heap[kb]? =some (dT mb ib)
 ms:w.ownsMap prog 9 Rv mb sm.length (dm sm)
 mi:w.ownsMap prog 9 Rv ib im.length (dm im)
 ss:Srt sm
 si:Srt im
 look:∀s,ai s sm=(st.docs s).map fun _=>.pointer (some ⟨Bf s,0,none⟩)
 vain:∀s,ai s im=(st.asked s).map fun t=>.int .i64 t
 srv:∀s t,st.docs s=some t→SV w (Bf s) (Qf s) t (qm s) (st.keys s)∧(qm s).length≤c
 non:∀s,st.docs s=none→∀i,st.keys s i=none
 inj:∀s s' t t',st.docs s=some t→st.docs s'=some t'→s≠s'→Bf s≠Bf s'∧Qf s≠Qf s'
 off:∀s t,st.docs s=some t→Qf s≠mb∧Qf s≠ib
 mbib:mb≠ib
 lsm:sm.length≤c
 lim:im.length≤c
 fk:F kb
 fm:F mb
 fi:F ib
 fs:∀s t,st.docs s=some t→F (Bf s)∧F (Qf s)
def KN(w:World)(F:Nat→Prop)(kb:Nat)(st:Ldg)(c:Nat):Prop:=∃mb ib sm im Bf Qf qm,KNs w F kb mb ib sm im Bf Qf qm st c
theorem KNs.frame{w w':World}{F:Nat→Prop}{kb mb ib:Nat}{sm im:List (Bs×Value)}{Bf Qf:Bs→Nat}{qm:Bs→List (Bs×Value)}{st:Ldg}{c:Nat}(h:KNs w F kb mb ib sm im Bf Qf qm st c)(hk:∀k,F k→w'.heap[k]? =w.heap[k]?):KNs w' F kb mb ib sm im Bf Qf qm st c:=
 ⟨(hk kb h.fk).trans h.kblk,ay h.ms (hk mb h.fm),ay h.mi (hk ib h.fi),h.ss,h.si,h.look,h.vain,fun s t hs=>⟨(h.srv s t hs).1.frame (hk _ (h.fs s t hs).1) (hk _ (h.fs s t hs).2),(h.srv s t hs).2⟩,h.non,h.inj,h.off,h.mbib,h.lsm,h.lim,h.fk,h.fm,h.fi,h.fs⟩
theorem KN.frame{w w':World}{F:Nat→Prop}{kb:Nat}{st:Ldg}{c:Nat}(h:KN w F kb st c)(hk:∀k,F k→w'.heap[k]? =w.heap[k]?):KN w' F kb st c:=by
 obtain⟨f,d,i,e,a,b,g,h⟩:=h;exact⟨f,d,i,e,a,b,g,h.frame hk⟩
theorem KNs.lt{w:World}{F:Nat→Prop}{kb mb ib:Nat}{sm im:List (Bs×Value)}{Bf Qf:Bs→Nat}{qm:Bs→List (Bs×Value)}{st:Ldg}{c:Nat}(h:KNs w F kb mb ib sm im Bf Qf qm st c):kb < w.heap.size∧mb < w.heap.size∧ib < w.heap.size∧∀s t,st.docs s=some t→Bf s < w.heap.size∧Qf s < w.heap.size:=
 ⟨ag h.kblk,h.ms.lt,h.mi.lt,fun s t hs=>⟨ag (h.srv s t hs).1.blk,(h.srv s t hs).1.own.lt⟩⟩
theorem KN.kp{w w':World}{F:Nat→Prop}{kb:Nat}{st:Ldg}{c:Nat}(h:KN w F kb st c)(hF:∀k,F k→k < w.heap.size)(hk:Kp (fun _=>False) w w'):KN w' F kb st c:=
 h.frame fun k hf=>hk.block k (hF k hf) (by simp)
theorem yk(sn:Bs)(now:Int)(st:Ldg)(k:Ky):(bp sn now st k).keys sn=fM now (st.keys sn) k:=by
 funext i
 unfold bp fM;by_cases h:i=k.id
 ·simp only[h,and_self,if_true]
  cases st.keys sn k.id <;> rfl
 ·simp only[h,and_false,if_false]
theorem wP(sn:Bs)(now:Int)(ks:List Ky):∀st:Ldg,(ks.foldl (bp sn now) st).keys sn=ks.foldl (fM now) (st.keys sn):=by
 induction ks with
 |nil=>intro st;rfl
 |cons k ks ih=>intro st;rw[List.foldl_cons,List.foldl_cons,ih,yk]
theorem KNs.learned{w w':World}{F:Nat→Prop}{kb mb ib:Nat}{sm im:List (Bs×Value)}{Bf Qf:Bs→Nat}{qm:Bs→List (Bs×Value)}{st:Ldg}{c sb qb n:Nat}{qn:List (Bs×Value)}{sn text:Bs}{ks:List Ky}{now:Int}(h:KNs w F kb mb ib sm im Bf Qf qm st c)
  (hK:∀k,k < w.heap.size→k≠mb→k≠sb→k≠qb→w'.heap[k]? =w.heap[k]?) (hm:w'.ownsMap prog 9 Rv mb n (dm (aC sn (.pointer (some ⟨sb,0,none⟩)) sm)))
  (hs:SV w' sb qb text qn (ks.foldl (fM now) (st.keys sn))) (hq:qn.length≤c+ks.length) (o:(∃t,st.docs sn=some t∧sb=Bf sn∧qb=Qf sn)∨(st.docs sn=none∧w.heap.size≤sb∧w.heap.size≤qb)) :
  KN w' (fun k=>F k∨k=sb∨k=qb) kb (fC (ks.foldl (bp sn now) st) sn text) (c+ks.length+1):=by
 have z:=h.lt;have E:kb≠mb:=fun e=>bw h.ms h.kblk e.symm
 have I:kb≠sb:=by
  rcases o with⟨t,a,rfl,rfl⟩ | ⟨_,p,_⟩
  ·exact fun e=>oN (h.srv sn t a).1.blk h.kblk e.symm
  ·omega
 have H:kb≠qb:=by
  rcases o with⟨t,a,rfl,rfl⟩ | ⟨_,_,p⟩
  ·exact fun e=>bw (h.srv sn t a).1.own h.kblk e.symm
  ·omega
 have D:ib≠sb:=by
  rcases o with⟨t,a,rfl,rfl⟩ | ⟨_,p,_⟩
  ·exact fun e=>bw h.mi (h.srv sn t a).1.blk e
  ·omega
 have r:ib≠qb:=by
  rcases o with⟨t,a,rfl,rfl⟩ | ⟨_,_,p⟩
  ·exact fun e=>(h.off sn t a).2 e.symm
  ·omega
 have J:qb≠mb:=by
  rcases o with⟨t,a,rfl,rfl⟩ | ⟨_,_,p⟩
  ·exact (h.off sn t a).1
  ·omega
 have oth:∀s t,s≠sn→st.docs s=some t→Bf s≠sb∧Qf s≠qb∧Bf s≠qb∧Qf s≠sb∧Bf s≠mb:=by
  intro s t g a;have C:=(h.srv s t a).1;have K:Bf s≠mb:=fun e=>bw h.ms C.blk e.symm
  rcases o with⟨y,d,rfl,rfl⟩ | ⟨_,p,P⟩
  ·have q:=(h.srv sn y d).1
   have m:=h.inj s sn t y a d g;exact⟨m.1,m.2,fun e=>bw q.own C.blk e.symm,fun e=>bw C.own q.blk e,K⟩
  ·have m:=z.2.2.2 s t a
   exact⟨by omega,by omega,by omega,by omega,K⟩
 have f:(fC (ks.foldl (bp sn now) st) sn text).docs=fun s=>if s=sn then some text else st.docs s:=by
  show (fun s=>if s=sn then some text else (ks.foldl (bp sn now) st).docs s)=_
  rw[ld]
 have u:∀s,s≠sn→∀i,(fC (ks.foldl (bp sn now) st) sn text).keys s i=st.keys s i:=fun s g i=>u9 sn now ks s g st i
 have G:(fC (ks.foldl (bp sn now) st) sn text).keys sn=ks.foldl (fM now) (st.keys sn):=wP sn now ks st;have B:(fC (ks.foldl (bp sn now) st) sn text).asked=st.asked:=ii sn now ks st;refine⟨mb,ib,aC sn (.pointer (some ⟨sb,0,none⟩)) sm,im,fun s=>if s=sn then sb else Bf s,fun s=>if s=sn then qb else Qf s,fun s=>if s=sn then qn else qm s, ?_⟩;have L:=mZ sn (.pointer (some ⟨sb,0,none⟩)) sm;refine⟨(hK kb z.1 E I H).trans h.kblk,d9 hm,ay h.mi (hK ib z.2.2.1 (Ne.symm h.mbib) D r),gC _ _ _ h.ss,h.si, ?_, ?_, ?_, ?_, ?_, ?_,h.mbib, ?_, ?_,Or.inl h.fk,Or.inl h.fm,Or.inl h.fi, ?_⟩
 ·intro s
  rw[lF,f];by_cases b:s=sn
  ·simp[b]
  ·simp only[if_neg b]
   exact h.look s
 ·intro s
  rw[B];exact h.vain s
 ·intro s t a
  rw[f]at a;by_cases b:s=sn
  ·subst b
   simp only[if_true]at a ⊢;injection a with a
   subst a;rw[G];exact⟨hs,by omega⟩
  ·simp only[if_neg b]at a ⊢
   obtain⟨v,x,M,N,O⟩:=oth s t b a;have m:=z.2.2.2 s t a;have l:=(h.srv s t a).1.frame (hK _ m.1 O v M) (hK _ m.2 (h.off s t a).1 N x);refine⟨⟨l.blk,l.own,l.srt, ?_⟩,by have:=(h.srv s t a).2;omega⟩;intro i;rw[u s b i];exact l.look i
 ·intro s a i
  rw[f]at a;by_cases b:s=sn
  ·simp[b]at a
  ·simp only[if_neg b]at a
   rw[u s b i];exact h.non s a i
 ·intro s A t y a d g
  rw[f]at a d;by_cases b:s=sn
  ·subst b
   have j:A≠s:=Ne.symm g;simp only[if_neg j]at d ⊢;obtain⟨v,x,_⟩:=oth A y j d;simp only[if_true];exact⟨Ne.symm v,Ne.symm x⟩
  ·simp only[if_neg b]at a ⊢
   by_cases j:A=sn
   ·subst j
    obtain⟨v,x,_⟩:=oth s t b a;simp only[if_true];exact⟨v,x⟩
   ·simp only[if_neg j]at d ⊢
    exact h.inj s A t y a d g
 ·intro s t a
  rw[f]at a;by_cases b:s=sn
  ·simp only[if_pos b]
   exact⟨J,Ne.symm r⟩
  ·simp only[if_neg b]at a ⊢
   exact h.off s t a
 ·have:=h.lsm
  omega
 ·have:=h.lim
  omega
 ·intro s t a
  rw[f]at a;by_cases b:s=sn
  ·refine⟨?_, ?_⟩ <;> simp[b]
  ·simp only[if_neg b]at a ⊢
   exact⟨Or.inl (h.fs s t a).1,Or.inl (h.fs s t a).2⟩
end
end Go.Proofs.YtocligpfmfmihaaGreatDoor
