import Derived.Test.YtocligpfmfmihaaGreatDoorVp5G
set_option maxHeartbeats 4000000
set_option maxRecDepth 20000
namespace Go.Proofs.YtocligpfmfmihaaGreatDoor
open Go.Proofs.Tryz
section
open Go Go.RowKit Go.Maps Go.WideMaps
attribute [local go_sem] Oper.semAt_some
def LfR(w:World)(Fk:Nat→Prop)(kb:Nat)(r:Bool×Ldg)(c:Nat)(e:Ending)(w':World):Prop:=∃Fk':Nat→Prop,Kp Fk w w'∧(∀k,Fk' k→Fk k∨w.heap.size≤k)∧(∀k,Fk' k→k < w'.heap.size)∧KN w' Fk' kb r.2 c∧((r.1=true∧e=.returned .nilIface)∨(r.1=false∧∃tt uu,e=.returned (.iface tt uu)))
theorem Ec{W w':World}{e:Ending}{n:Nat}(h:(n=0∧e=.returned .nilIface)∨(n=6∧∃a,e=.returned a∧Chd W w' a 6∧∃t u,a=.iface t u)):∃a,e=.returned a∧((n=0∧a=.nilIface)∨(n=6∧∃t u,a=.iface t u)):=by
 rcases h with⟨b,c⟩ | ⟨b,a,c,_,d⟩
 ·exact⟨_,c,Or.inl ⟨b,rfl⟩⟩
 ·exact⟨_,c,Or.inr ⟨b,d⟩⟩
theorem tv(W:World)(hN:NG3 W)(w:World)(hW:Below W.heap.size W w)(Fk:Nat→Prop)(nb kb:Nat)(hFk:∀k,Fk k→W.heap.size≤k∧k < w.heap.size)(n4:w.cell? ⟨nb,4,none⟩=some (.pointer (some ⟨kb,0,none⟩)))(hnF:¬Fk nb)(st:Ldg)(T:List Bs)(hT:LOk T st)(hTl:T.length≤700000)(hK:KN w Fk kb st (aR T))
  (rs:List Rpl) (ra:Option Addr) (rc cb:Nat) (hI:RpI w rs ra) (hrl:rs.length≤1100000000) (hrT:∀r ∈ rs,r.text ∈ T) (hcb:w.heap[cb]? =some (.cells #[.slice ra rs.length rc] 91)) (src srv:Bs) (now:Int) (hn0 : -9223372036854775808≤now) :
  Calls prog 105 #[.pointer (some ⟨nb,0,none⟩),.string ⟨src.toArray⟩,.string ⟨srv.toArray⟩,.int .i64 now,.func (.func 102) #[] #[.pointer (some ⟨cb,0,none⟩)]] w fun e w'=>LfR w Fk kb (bf rs now srv st src) (aR T) e w':=by
 have C:=ae (Bm W hN w hW rs ra rc cb hI hrl hcb src srv);have c:=ae (An hFk (An hnF (An hT (An hK hrT))));clear hFk hnF hT hK hrT hI hcb;go_enter func105,ntmps105;go_wp2_with fail
 refine C.o.mono ?_;rintro e w1 ⟨J,h1⟩;have j:=ae J;have H:=J.cel n4;have s:=am hW J;clear C J;rcases h1 with⟨t,m,rfl⟩ | ⟨a,m,rfl⟩
 ·have Y:t ∈ T:=by
   obtain⟨r,i,rfl⟩:=mW m;exact c.o.2.2.2.2 r i
  have N:=ae (jQ W hN.n2 ⟨t.toArray⟩ w1 s);have V:(⟨t.toArray⟩:ByteArray).data.toList=t:=by simp
  rw[V]at N;clear V;have I:=ae (An m Y);clear m Y;go_wp2_with fail
  refine N.o.mono ?_;rintro e w2 ⟨K,L⟩;have f:=ae (j.o.trans K);have S:=K.cel H;have x:=am s K;clear N K H s j
  cases i:aZ t with
  |error n=>
   rw[i]at L;obtain⟨E,rfl,he,tt,u,rfl⟩:=L;have b:bf rs now srv st src=(false,st):=by unfold bf;rw[I.o.1];simp only[i]
   have p:=ae b;clear he i b;go_wp2;go_ret;rw[p.o];refine⟨Fk,(f.o.mono (fun _ _ h=>h.elim)).alloc _,fun _ h=>Or.inl h,fun k h=> ?_,c.o.2.2.2.1.kp (fun k h=>(c.o.1 k h).2) (f.o.alloc _),Or.inr ⟨rfl,_,_,rfl⟩⟩;have:=(c.o.1 k h).2;have:=(f.o.alloc (.cells #[.string ⟨#[]⟩,.int .i64 0,.slice none 0 0] 30)).size;omega
  |ok d=>
   obtain⟨sn,q,g⟩:=d;rw[i]at L;obtain⟨v,rfl,row⟩:=L;obtain⟨q1,Z,q3,q4,q5⟩:=iR i;obtain⟨y,z,rfl,_⟩:=aJ row;have l:Kp (fun _=>False) w2 (w2.alloc (.cells #[.string ⟨sn.toArray⟩,.int .i64 q,.slice y g.length z] 30)):=(Kp.refl _ _).alloc _;have Id:=heap_alloc_new w2 (.cells #[.string ⟨sn.toArray⟩,.int .i64 q,.slice y g.length z] 30);by_cases B:sn=srv
   ·have R:(sn == srv)=true:=by simpa using B
    have F:aR T+g.length≤900000000:=by
     have:aR T≤1100*700000:=Nat.mul_le_mul_left 1100 hTl;omega
    have b:bf rs now srv st src=(decide ((bR st sn g t now).1=0),(bR st sn g t now).2):=by unfold bf;rw[I.o.1];simp only[i];rw[if_pos B]
    have p:=ae (An b (LOk.take c.o.2.2.1 I.o.2 i now))
    have O:Hid (∀X,Kp (fun _=>False) (w2.alloc (.cells #[.string ⟨sn.toArray⟩,.int .i64 q,.slice y g.length z] 30)) X→Calls prog 56 #[.pointer (some ⟨kb,0,none⟩),.agg #[.string ⟨sn.toArray⟩,.int .i64 q,.slice y g.length z],.string ⟨t.toArray⟩,.int .i64 now] X fun e w'=>TiR W X Fk kb (bR st sn g t now) (aR T+g.length+1) e w'):=fun X hX=>
     sD W hN X (am x (l.trans hX)) Fk (fun k m=>⟨(c.o.1 k m).1,Nat.lt_of_lt_of_le (c.o.1 k m).2 (Nat.le_trans f.o.size (l.trans hX).size)⟩) kb st (aR T) (c.o.2.2.2.1.kp (fun k h=>(c.o.1 k h).2) (f.o.trans (l.trans hX))) sn q t now hn0 _ _ g (an row (l.trans hX) (by simp)) (by omega) (fun k hk=>by have:=(Z k hk).1;omega) F
    have ab:=l.cel S;clear b i B row q1 Z q3 q5;go_wp2_with fail
    generalize (w2.alloc (.cells #[.string ⟨sn.toArray⟩,.int .i64 q,.slice y g.length z] 30))=wd at *;obtain⟨x0,x1,x2,ac,ad,af,aa⟩:=ba Id;go_region_law (refine aF rfl 56 _ _ rfl #[.pointer (some ⟨kb,0,none⟩),.agg #[.string ⟨sn.toArray⟩,.int .i64 q,.slice y g.length z],.string ⟨t.toArray⟩,.int .i64 now] (by go_simp) ?_;refine (O.o _ ((Kp.refl _ wd).drew)).mono ?_;rintro e w3 ⟨M,t1,t2,t3,t4,t5,t6⟩;obtain⟨E,rfl,hev⟩:∃E,e=.returned E∧(((bR st sn g t now).1=0∧E=.nilIface)∨((bR st sn g t now).1=6∧∃t u,E=.iface t u)):=Ec t6;have D:=ae (An t1 (An t2 (An t3 (An t5 hev))));clear t1 t2 t3 t4 t5 t6 hev)
    all_goals go_wp2
    all_goals go_ret
    all_goals
     rw[p.o.1];have A:Kp (fun _=>False) w wd.drew:=(f.o.trans l).drew;refine⟨M,(A.mono (fun _ _ h=>h.elim)).trans D.o.1,fun k h=>(D.o.2.1 k h).imp id (fun h=>Nat.le_trans A.size h),D.o.2.2.1,D.o.2.2.2.1.tight p.o.2, ?_⟩;rcases D.o.2.2.2.2 with⟨U,rfl⟩ | ⟨U,tt,uu,rfl⟩
     ·exact Or.inl ⟨by simp[U],rfl⟩
     ·exact Or.inr ⟨by simp[U],_,_,rfl⟩
   ·have R:(sn == srv)=false:=by simpa using B
    obtain⟨ef,G,_⟩:=hN.oth 11 (by simp);have b:bf rs now srv st src=(false,st):=by unfold bf;rw[I.o.1];simp only[i];rw[if_neg B]
    have p:=ae b;have P:=Below.cl (am x l) G;have Q:=Below.cl (am x (l.alloc (.cells #[.string ⟨#[]⟩,.nilIface] 252))) G;unfold ax at P Q;clear b i B;go_wp2;go_ret;rw[p.o];have A:∀o1 o2,Kp (fun _=>False) w (((w2.alloc (.cells #[.string ⟨sn.toArray⟩,.int .i64 q,.slice y g.length z] 30)).alloc o1).alloc o2):=fun o1 o2=>((f.o.trans l).alloc _).alloc _
    refine⟨Fk,(A _ _).mono (fun _ _ h=>h.elim),fun _ h=>Or.inl h,fun k h=> ?_,c.o.2.2.2.1.kp (fun k h=>(c.o.1 k h).2) (A _ _),Or.inr ⟨rfl,_,_,rfl⟩⟩;exact Nat.lt_of_lt_of_le (c.o.1 k h).2 (A _ _).size
 ·have b:bf rs now srv st src=(false,st):=by unfold bf;rw[m]
  have p:=ae b;clear b m;unfold ax;go_wp2;go_ret;rw[p.o];refine⟨Fk,j.o.mono (fun _ _ h=>h.elim),fun _ h=>Or.inl h,fun k h=> ?_,c.o.2.2.2.1.kp (fun k h=>(c.o.1 k h).2) j.o,Or.inr ⟨rfl,_,_,rfl⟩⟩;have:=(c.o.1 k h).2;have:=j.o.size;omega
structure FE(W w:World)(Fk:Nat→Prop)(nb kb:Nat)(nm id ky:Bs)(so:Value)(xs:List Bs)(rs:List Rpl)(ra:Option Addr)(rc cb:Nat):Prop where
 bl:Below W.heap.size W w
 fl:∀k,Fk k→W.heap.size≤k∧k < w.heap.size
 nblk:w.heap[nb]? =some (me nm id ky so kb)
 nf:¬Fk nb
 rso:w.ownsRow 0 9 1 so xs.length (xs.map fun s=>.string ⟨s.toArray⟩)
 fso:∀k,so.ownBlock=some k→¬Fk k∧k < w.heap.size
 hcb:w.heap[cb]? =some (.cells #[.slice ra rs.length rc] 91)
 cf:¬Fk cb
 hI:RpI w rs ra
 rf:rs≠[]→∀g o,ra=some ⟨g,o,none⟩→¬Fk g∧g < w.heap.size
structure CE(w:World)(Fk:Nat→Prop)(nb pb ib:Nat)(cl:Clm)(sv:Value):Prop where
 pblk:w.heap[pb]? =some (.cells #[.pointer (some ⟨nb,0,none⟩)] 47)
 pf:¬Fk pb
 iblk:w.heap[ib]? =some (eB cl sv)
 nf:¬Fk ib
 row:w.ownsRow 0 193 2 sv cl.sigs.length (cl.sigs.flatMap sgC)
 sf:∀k,sv.ownBlock=some k→¬Fk k∧k < w.heap.size
theorem RpI.kps{w w':World}{S:Nat→Prop}{rs:List Rpl}{ra:Option Addr}(h:RpI w rs ra)(K:Kp S w w')(hS:rs≠[]→∀g o,ra=some ⟨g,o,none⟩→¬S g):RpI w' rs ra:=by
 intro j r b;obtain⟨g,o,e,a⟩:=h j r b;exact⟨g,o,e,fun m u hu=>(K.cell (bk (a m u hu)) (hS (by rintro rfl;cases b) g o e)).trans (a m u hu)⟩
theorem mO{W w w':World}{F:Nat→Prop}(h:Below W.heap.size W w)(K:Kp F w w')(hF:∀k,F k→W.heap.size≤k):Below W.heap.size W w':=
 ⟨K.os.trans h.os,K.tape.trans h.tape,K.output.trans h.output,Nat.le_trans h.size K.size,fun k hk=>(K.block k (Nat.lt_of_lt_of_le hk h.size) (fun hf=>by have:=hF k hf;omega)).trans (h.block k hk)⟩
theorem fU{w w':World}{S:Nat→Prop}{k:Nat}{o:Obj}(h:w.heap[k]? =some o)(K:Kp S w w')(hS:¬S k):w'.heap[k]? =some o:=(K.block k (ag h) hS).trans h
theorem FE.kp{W w w':World}{Fk Fk':Nat→Prop}{nb kb:Nat}{nm id ky:Bs}{so:Value}{xs:List Bs}{rs:List Rpl}{ra:Option Addr}{rc cb:Nat}(h:FE W w Fk nb kb nm id ky so xs rs ra rc cb)(K:Kp Fk w w')(c:∀k,Fk' k→Fk k∨w.heap.size≤k)(h2:∀k,Fk' k→k < w'.heap.size):FE W w' Fk' nb kb nm id ky so xs rs ra rc cb:=by
 have b:∀k,k < w.heap.size→¬Fk k→¬Fk' k:=fun k hk a hf'=>(c k hf').elim a (fun h=>by omega)
 refine⟨mO h.bl K (fun k a=>(h.fl k a).1),fun k a=>⟨?_,h2 k a⟩,fU h.nblk K h.nf,b _ (ag h.nblk) h.nf,an h.rso K (fun k e=>(h.fso k e).1),fun k e=>⟨b k (h.fso k e).2 (h.fso k e).1,Nat.lt_of_lt_of_le (h.fso k e).2 K.size⟩,fU h.hcb K h.cf,b _ (ag h.hcb) h.cf,h.hI.kps K (fun h0 g o e=>(h.rf h0 g o e).1),fun h0 g o e=>⟨b g (h.rf h0 g o e).2 (h.rf h0 g o e).1,Nat.lt_of_lt_of_le (h.rf h0 g o e).2 K.size⟩⟩;rcases c k a with a | a
 ·exact (h.fl k a).1
 ·exact Nat.le_trans h.bl.size a
theorem CE.kp{w w':World}{Fk Fk':Nat→Prop}{nb pb ib:Nat}{cl:Clm}{sv:Value}(h:CE w Fk nb pb ib cl sv)(K:Kp Fk w w')(h1:∀k,Fk' k→Fk k∨w.heap.size≤k):CE w' Fk' nb pb ib cl sv:=by
 have a:∀k,k < w.heap.size→¬Fk k→¬Fk' k:=fun k hk hf hf'=>(h1 k hf').elim hf (fun h=>by omega)
 exact⟨fU h.pblk K h.pf,a _ (ag h.pblk) h.pf,fU h.iblk K h.nf,a _ (ag h.iblk) h.nf,an h.row K (fun k e=>(h.sf k e).1),fun k e=>⟨a k (h.sf k e).2 (h.sf k e).1,Nat.lt_of_lt_of_le (h.sf k e).2 K.size⟩⟩
theorem yT(w:World)(Fk:Nat→Prop)(nb kb:Nat)(nm id ky:Bs)(so:Value)(st:Ldg)(c:Nat)(hK:KN w Fk kb st c)(hn:w.heap[nb]? =some (me nm id ky so kb))(pb ib:Nat)(cl:Clm)(hcl:ClK cl)(h0:0 < cl.sigs.length)(sv:Value)(hE:CE w Fk nb pb ib cl sv):
  Calls prog 62 #[.pointer (some ⟨pb,0,none⟩),.pointer (some ⟨ib,0,none⟩)] w fun e w'=>e=.returned (.bool (et st cl))∧Kp (fun _=>False) w w':=by
 obtain⟨n,p,n2,q,r⟩:=cX hn;obtain⟨k,_⟩:=aj hE.pblk;obtain⟨a,b,rfl,i,h⟩:=aY hE.row;obtain⟨i0,m,i2,i3,_⟩:=ei hE.iblk;have g:Hid (∀X,Kp (fun _=>False) w X→Calls prog 60 #[.pointer (some ⟨kb,0,none⟩),clV cl (.slice a cl.sigs.length b)] X fun e w'=>e=.returned (.bool (b8 st cl))∧Kp (fun _=>False) X w'):=fun X hX=>pM X Fk kb st c (hK.kp2 hX) cl hcl 0 _ (an hE.row hX (by simp))
 have l:(!b8 st cl)=et st cl:=by unfold b8;simp[h0]
 have j:=ae hE;clear hE hK;go_enter func62,ntmps62;go_wp2_with fail
 go_region_law (refine aF rfl 60 _ _ rfl #[.pointer (some ⟨kb,0,none⟩),.agg #[.string ⟨cl.server.toArray⟩,.int .i64 cl.ts,.string ⟨cl.msg.toArray⟩,.slice a cl.sigs.length b]] (by go_simp) ?_;refine (g.o _ ((Kp.refl _ w).drew)).mono ?_;rintro e w3 ⟨rfl,d⟩;have f:=ae d;clear d)
 all_goals go_wp2
 all_goals go_ret
 all_goals exact⟨rfl,((Kp.refl _ w).drew).trans f.o⟩
theorem FE.pns{W w:World}{Fk:Nat→Prop}{nb kb:Nat}{nm id ky:Bs}{so:Value}{xs:List Bs}{rs:List Rpl}{ra:Option Addr}{rc cb:Nat}{st:Ldg}{c:Nat}(h:FE W w Fk nb kb nm id ky so xs rs ra rc cb)(hk:KN w Fk kb st c):PNs w (fun k=>Fk k∨k=nb∨so.ownBlock=some k) Fk nb kb nm id ky so xs st c:=
 ⟨h.nblk,hk,h.rso,Or.inr (Or.inl rfl),fun k e=>⟨Or.inr (Or.inr e),(h.fso k e).1⟩,fun k a=>Or.inl a,h.nf,fun k a=>by
  rcases a with a | rfl | a
  ·exact (h.fl k a).2
  ·exact ag h.nblk
  ·exact (h.fso k a).2⟩
structure FI(W w:World)(Fk:Nat→Prop)(nb kb:Nat)(nm id ky:Bs)(so:Value)(xs:List Bs)(rs:List Rpl)(ra:Option Addr)(rc cb pb ib:Nat)(cl:Clm)(sv:Value)(T:List Bs)(st:Ldg):Prop where
 fe:FE W w Fk nb kb nm id ky so xs rs ra rc cb
 ce:CE w Fk nb pb ib cl sv
 kn:KN w Fk kb st (aR T)
 ok:LOk T st
theorem FI.kp{W w w':World}{Fk Fk':Nat→Prop}{nb kb:Nat}{nm id ky:Bs}{so:Value}{xs:List Bs}{rs:List Rpl}{ra:Option Addr}{rc cb pb ib:Nat}{cl:Clm}{sv:Value}{T:List Bs}{st st':Ldg}(h:FI W w Fk nb kb nm id ky so xs rs ra rc cb pb ib cl sv T st)(K:Kp Fk w w')(h1:∀k,Fk' k→Fk k∨w.heap.size≤k)(h2:∀k,Fk' k→k < w'.heap.size)(hk:KN w' Fk' kb st' (aR T))(ho:LOk T st'):FI W w' Fk' nb kb nm id ky so xs rs ra rc cb pb ib cl sv T st':=
 ⟨h.fe.kp K h1 h2,h.ce.kp K h1,hk,ho⟩
theorem FI.kp0{W w w':World}{Fk:Nat→Prop}{nb kb:Nat}{nm id ky:Bs}{so:Value}{xs:List Bs}{rs:List Rpl}{ra:Option Addr}{rc cb pb ib:Nat}{cl:Clm}{sv:Value}{T:List Bs}{st:Ldg}(h:FI W w Fk nb kb nm id ky so xs rs ra rc cb pb ib cl sv T st)(K:Kp (fun _=>False) w w'):FI W w' Fk nb kb nm id ky so xs rs ra rc cb pb ib cl sv T st:=
 h.kp (K.mono (fun _ _ h=>h.elim)) (fun _ h=>Or.inl h) (fun k hf=>Nat.lt_of_lt_of_le (h.fe.fl k hf).2 K.size) (h.kn.kp2 K) h.ok
def FtR(W w:World)(Fk:Nat→Prop)(nb kb:Nat)(nm id ky:Bs)(so:Value)(xs:List Bs)(rs:List Rpl)(ra:Option Addr)(rc cb pb ib:Nat)(cl:Clm)(sv:Value)(T:List Bs)(st:Ldg)(w':World):Prop:=∃Fk':Nat→Prop,Kp Fk w w'∧(∀k,Fk' k→Fk k∨w.heap.size≤k)∧FI W w' Fk' nb kb nm id ky so xs rs ra rc cb pb ib cl sv T st
def FtE(W w:World)(Fk:Nat→Prop)(nb kb:Nat)(nm id ky:Bs)(so:Value)(xs:List Bs)(rs:List Rpl)(ra:Option Addr)(rc cb pb ib:Nat)(cl:Clm)(sv:Value)(T:List Bs)(r:Nat×Ldg)(e:Ending)(w':World):Prop:=e=.returned (.int .i64 (r.1:Int))∧FtR W w Fk nb kb nm id ky so xs rs ra rc cb pb ib cl sv T r.2 w'
theorem BI{W w2 w3 w4:World}{Fk Fs:Nat→Prop}{nb kb:Nat}{nm id ky:Bs}{so:Value}{xs:List Bs}{rs:List Rpl}{ra:Option Addr}{rc cb pb ib:Nat}{cl:Clm}{sv:Value}{T:List Bs}{st:Ldg}(K:Kp Fk w2 w3)(h1:∀k,Fs k→Fk k∨w2.heap.size≤k)(h:FI W w3 Fs nb kb nm id ky so xs rs ra rc cb pb ib cl sv T st)(K4:Kp (fun _=>False) w3 w4):FtR W w2 Fk nb kb nm id ky so xs rs ra rc cb pb ib cl sv T st w4:=
 ⟨Fs,K.trans (K4.mono (fun _ _ h=>h.elim)),h1,h.kp0 K4⟩
theorem wT{W w w2 w3 w4:World}{Fk Fs:Nat→Prop}{nb kb:Nat}{nm id ky:Bs}{so:Value}{xs:List Bs}{rs:List Rpl}{ra:Option Addr}{rc cb pb ib:Nat}{cl:Clm}{sv:Value}{T:List Bs}{st:Ldg}(K0:Kp (fun _=>False) w w2)(K:Kp Fk w2 w3)(h1:∀k,Fs k→Fk k∨w2.heap.size≤k)(h:FI W w3 Fs nb kb nm id ky so xs rs ra rc cb pb ib cl sv T st)(K4:Kp (fun _=>False) w3 w4):FtR W w Fk nb kb nm id ky so xs rs ra rc cb pb ib cl sv T st w4:=
 ⟨Fs,(K0.mono (fun _ _ h=>h.elim)).trans (K.trans (K4.mono (fun _ _ h=>h.elim))),fun k hk=>(h1 k hk).imp (fun h=>h) (fun h=>Nat.le_trans K0.size h),h.kp0 K4⟩
theorem BH(W:World)(hN:NG3 W)(w:World)(Fk:Nat→Prop)(nb kb:Nat)(nm id ky:Bs)(so:Value)(xs:List Bs)(rs:List Rpl)(ra:Option Addr)(rc cb pb ib:Nat)(cl:Clm)(sv:Value)(T:List Bs)(st:Ldg)(hI:FI W w Fk nb kb nm id ky so xs rs ra rc cb pb ib cl sv T st)(hTl:T.length≤700000)(hxl:xs.length≤1100000000)(hrl:rs.length≤1100000000)(hrT:∀r ∈ rs,r.text ∈ T)
  (hcl:ClK cl) (h0:0 < cl.sigs.length) {t:Bs} {cs:List Clm} (htT:t ∈ T) (hct:bM t=.ok cs) (hcm:cl ∈ cs) (now:Int) (hn0 : -9223372036854775808≤now) (hn1:now≤9223372036854775807) (res:Nat×Ldg) (c:res=if cS st cl.server now then (0,st) else dy rs now xs st cl) :
  Calls prog 61 #[.pointer (some ⟨nb,0,none⟩),.string ⟨cl.server.toArray⟩,.int .i64 now,.func (.func 102) #[] #[.pointer (some ⟨cb,0,none⟩)],.func (.func 62) #[] #[.pointer (some ⟨pb,0,none⟩),.pointer (some ⟨ib,0,none⟩)]] w fun e w'=>
   FtE W w Fk nb kb nm id ky so xs rs ra rc cb pb ib cl sv T res e w':=by
 have p:=ae c;clear c;obtain⟨n0,n1,n2,n3,n4⟩:=cX hI.fe.nblk;have Q:=ae (yf w Fk kb st (aR T) hI.kn cl.server (by have:=hcl.srv;omega) now hn0 hn1 (fun s x h=>(hI.ok.asked s x h).1));have B:=ae (An hI (An hrT (An htT (An hct hcm))));clear hI hrT htT hct hcm;go_enter func61,ntmps61;go_wp2_with fail
 refine Q.o.mono ?_;rintro e w1 ⟨rfl,K1⟩;have m:=ae K1;clear K1 Q n4 n3 n2 n1 n0
 cases hso:cS st cl.server now with
 |true=>
  rw[hso,if_pos rfl]at p;go_wp2;go_ret;rw[p.o];exact⟨rfl,Fk,m.o.mono (fun _ _ h=>h.elim),fun _ h=>Or.inl h,B.o.1.kp0 m.o⟩
 |false=>
  rw[hso,if_neg (by decide)]at p;have F:=B.o.1.kp0 m.o;have P:=ae (sy w1 _ _ _ _ _ _ _ _ xs _ _ (F.fe.pns F.kn) hxl cl.server);clear F;go_wp2_with fail
  refine P.o.mono ?_;rintro e w2 ⟨v,rfl,K2,row⟩;obtain⟨va,vc,rfl,al,ag⟩:=aY row
  have Z:∀k,(Value.slice va (cT cl.server xs).length vc).ownBlock=some k→¬Fk k:=fun k e hf=>by
   have:=(row.lt k e).1;have:=(B.o.1.fe.fl k hf).2;have:=m.o.size;omega
  have n:=ae (An (m.o.trans K2) (An row Z))
  have ai:(cT cl.server xs).length≤1100000001:=by
   unfold cT;have:=List.length_filter_le (fun s=>decide (s≠cl.server)) xs;simp only[List.length_cons];omega
  have J:Hid (res=if (bF rs now cl st (cT cl.server xs) 0).2.1 then ((bF rs now cl st (cT cl.server xs) 0).1,(bF rs now cl st (cT cl.server xs) 0).2.2) else ((bF rs now cl st (cT cl.server xs) 0).1,eO (bF rs now cl st (cT cl.server xs) 0).2.2 cl.server now)):=p.o;clear P K2 m row ag Z;clear p;generalize cT cl.server xs=L at *;go_wp2_with fail
  go_loopg [11,26] L.length (fun gg q q2 wx=>∃(i:Nat) (b:Ldg),gg=L.length - i∧i≤L.length∧q=.int .i64 (i:Int)∧q2=.int .i64 (i:Int)∧bF rs now cl st L 0=bF rs now cl b (L.drop i) i∧FtR W w2 Fk nb kb nm id ky so xs rs ra rc cb pb ib cl sv T b wx)
  case atStart=>exact⟨0,st,rfl,by omega,rfl,rfl,by rw[List.drop_zero],Fk,Kp.refl _ _,fun _ h=>Or.inl h,B.o.1.kp0 n.o.1⟩
  case round=>
   obtain⟨i,b,E,aj,rfl,rfl,u,Fr,Kr,D,a⟩:=hrel;have l:=ae (An E (An u (An Kr (An D a))));by_cases G:i < L.length
   ·have Y:(i:Int) < (L.length:Int):=by omega
    obtain⟨x,hx⟩:∃x,L[i]? =some x:=⟨L[i],List.getElem?_eq_getElem G⟩;have A:=an n.o.2.1 Kr n.o.2.2;obtain⟨_,_,e1,_,hg⟩:=aY A;obtain⟨g,e2,hg⟩:=hg (by omega);injection e1 with R ab ac
    subst ac;rw[←R]at e2;subst e2;have ah:wr.cell? ⟨g,i,none⟩=some (.string ⟨x.toArray⟩):=aL A i _ (by rw[List.getElem?_map,hx];rfl)
    have V:L.drop i=x :: L.drop (i+1):=by
     rw[List.drop_eq_getElem_cons G];have:=List.getElem?_eq_getElem G;rw[hx]at this;injection this with this
     rw[this]
    have f:Hid (bF rs now cl st L 0=if (bf rs now cl.server b x).1 && et (bf rs now cl.server b x).2 cl then (i+1,true,(bf rs now cl.server b x).2) else bF rs now cl (bf rs now cl.server b x).2 (L.drop (i+1)) (i+1)):=by
     show _=_
     rw[u,V];rfl
    have aa:=(cX a.fe.nblk).2.2.2.2;have N:=ae (tv W hN wr a.fe.bl Fr nb kb a.fe.fl aa a.fe.nf b T a.ok hTl a.kn rs ra rc cb a.fe.hI hrl B.o.2.1 a.fe.hcb x cl.server now hn0);have z:=a.ok.from B.o.2.1 now cl.server x
    have O:=ae z;clear hx V u E Kr D a A z R ab;go_wp2_with fail
    refine N.o.mono ?_;rintro e w3 ⟨Fs,H,C,S,U,ad⟩;have a:=l.o.2.2.2.2.kp H C S U O.o
    have d:Hid (Kp Fk w2 w3∧(∀k,Fs k→Fk k∨w2.heap.size≤k)∧FI W w3 Fs nb kb nm id ky so xs rs ra rc cb pb ib cl sv T (bf rs now cl.server b x).2):=by
     refine⟨l.o.2.2.1.and H (fun j hj hf=>(l.o.2.2.2.1 j hf).resolve_right (by omega)),fun k hk=> ?_,a⟩;rcases C k hk with h | h
     ·exact l.o.2.2.2.1 k h
     ·exact Or.inr (Nat.le_trans l.o.2.2.1.size h)
    clear H C S U N O;rcases ad with⟨y,rfl⟩ | ⟨y,tt,uu,rfl⟩
    ·rw[y,Bool.true_and]at f
     have I:=ae (yT w3 Fs nb kb nm id ky so _ _ a.kn a.fe.nblk pb ib cl hcl h0 sv a.ce);clear a y;go_wp2_with fail
     refine I.o.mono ?_;rintro e w4 ⟨rfl,K4⟩;have M:=ae K4;clear K4 I
     cases hha:et (bf rs now cl.server b x).2 cl with
     |true=>
      rw[hha,if_pos rfl]at f;have c:res=(i+1,(bf rs now cl.server b x).2):=by rw[J.o,f.o];rfl
      have HR:=ae c;clear c hha;go_wp2;go_ret;rw[HR.o];exact⟨rfl,wT n.o.1 d.o.1 d.o.2.1 d.o.2.2 M.o⟩
     |false=>
      rw[hha,if_neg (by decide)]at f;clear hha;go_wp2;go_roundg (L.length - (i+1))
      case measure=>rw[l.o.1];omega
      case rel=>exact⟨i+1,_,rfl,by omega,ak (by omega),ak (by omega),f.o,BI d.o.1 d.o.2.1 d.o.2.2 M.o⟩
    ·rw[y,Bool.false_and,if_neg (by decide)]at f
     clear a y;go_wp2;go_roundg (L.length - (i+1))
     case measure=>rw[l.o.1];omega
     case rel=>exact⟨i+1,_,rfl,by omega,ak (by omega),ak (by omega),f.o,⟨Fs,d.o.1,d.o.2.1,d.o.2.2⟩⟩
   ·have Y:¬(i:Int) < (L.length:Int):=by omega
    have c:res=(i,eO b cl.server now):=by
     have:bF rs now cl st L 0=(i,false,b):=by
      rw[u,List.drop_of_length_le (by omega)];rfl
     rw[J.o,this];rfl
    have af:aR T≤900000000:=by
     have:aR T≤1100*700000:=Nat.mul_le_mul_left 1100 hTl;omega
    have HR:=ae c;have aa:=(cX a.fe.nblk).2.2.2.2;have K:=ae (zb wr Fr kb b (aR T) a.kn cl.server (by have:=hcl.srv;omega) now af);clear c u E Kr D a;go_wp2_with fail
    refine K.o.mono ?_;rintro e w3 ⟨rfl,H,X⟩;have H3:=ae (An H X);clear H X K;go_wp2;go_ret;rw[HR.o];have z:LOk T (eO b cl.server now):=l.o.2.2.2.2.ok.vain B.o.2.2.1 B.o.2.2.2.1 B.o.2.2.2.2 hn0 hn1;have a:=l.o.2.2.2.2.kp H3.o.1 (fun _ h=>Or.inl h) (fun k hf=>Nat.lt_of_lt_of_le (l.o.2.2.2.2.fe.fl k hf).2 H3.o.1.size) (H3.o.2.tight z) z;exact⟨rfl,wT n.o.1 (l.o.2.2.1.and H3.o.1 (fun j hj hf=>(l.o.2.2.2.1 j hf).resolve_right (by omega))) l.o.2.2.2.1 a (Kp.refl _ _)⟩
end
section
open Go Go.RowKit Go.Maps
attribute [local go_sem] Oper.semAt_some
def RtR(w:World)(text:Bs)(e:Ending)(w':World):Prop:=Kp (fun _=>False) w w' ∧
 ((∃n,n≠0∧bM text=.error n∧e=.returned (.tuple #[.pointer none,.int .i64 (n:Int)])) ∨
  (∃l ss at' eb vb sv,bM text=.ok (ss.map fun s=>⟨s,at',aA l,aG l s⟩)∧e=.returned (.tuple #[.pointer (some ⟨eb,0,none⟩),.int .i64 0])∧REv w' w.heap.size w'.heap.size eb vb sv l ss at' (aA l)))
theorem iW{w w':World}{text:Bs}{l:List (Bs×J)}(K:Kp (fun _=>False) w w')(ho:aM text=.ok l)(hc:dI l=none):RtR w text (.returned (.tuple #[.pointer none,.int .i64 7])) w':=
 ⟨K,Or.inl ⟨7,by decide,by unfold bM;rw[ho];simp only[hc],rfl⟩⟩
theorem oC{o:Option J}(h:(bs o).isSome=true):∃s,o=some (.str s)∧bs o=some s∧s.length≤20:=by
 unfold bs at h
 cases o with
 |none=>cases h
 |some j=>
  cases j with
  |str s=>
   refine⟨s,rfl, ?_⟩;unfold bs;simp only[dS,Option.bind_some]at h ⊢;split at h
   ·rename_i hn
    rw[if_pos hn];unfold cd at hn;simp at hn;exact⟨rfl,hn.2⟩
   ·cases h
  |_=>cases h
theorem xq{o:Option J}(h:(cC o).isSome=true):∃n,o=some (.num n)∧cC o=some n:=by
 cases o with
 |none=>cases h
 |some j=>
  cases j with
  |num n=>
   refine⟨n,rfl, ?_⟩;unfold cC at h ⊢;simp only[]at h ⊢;split at h
   ·rename_i hn
    rw[if_pos hn]
   ·cases h
  |_=>cases h
theorem wN{w:World}{b:Nat}{x y z u m:Value}{T:TypeId}(h:w.heap[b]? =some (.cells #[x,y,z,u] T)):(w.setCell ⟨b,3,none⟩ m).heap[b]? =some (.cells #[x,y,z,m] T):=by simp[World.setCell,Array.getElem?_modify,h]
theorem qT{w:World}{b:Nat}{x y z u m:Value}{T:TypeId}(h:w.heap[b]? =some (.cells #[x,y,z,u] T)):(w.setCell ⟨b,1,none⟩ m).heap[b]? =some (.cells #[x,m,z,u] T):=by simp[World.setCell,Array.getElem?_modify,h]
theorem gK{w:World}{b:Nat}{x y z u:Value}{T:TypeId}(h:w.heap[b]? =some (.cells #[x,y,z,u] T)):w.frozen? ⟨b,0,none⟩=false∧w.frozen? ⟨b,1,none⟩=false∧w.frozen? ⟨b,2,none⟩=false∧w.frozen? ⟨b,3,none⟩=false:=by refine⟨?_, ?_, ?_, ?_⟩ <;> simp[World.frozen?,h]
theorem t7{l:List (Bs×J)}{o s:Bs}{n:Int}(h1:bs (ai lw l)=some o)(h2:cC (ai kTs l)=some n)(h3:ai lA l=some (.str s))(h4:bs (some (.str s))=some s):dI l=some ((if s=o then [o] else [o,s]).map fun s=>⟨s,n,aA l,aG l s⟩):=by
 unfold dI eE;rw[h1,h2,h3];simp only[Option.bind_some];rw[h4];rfl
theorem pD{w w6 w':World}{text:Bs}{l:List (Bs×J)}{vb:Nat}{sv:Value}{n:Int}{ss:List Bs}(ho:aM text=.ok l)(hle:(cJ (.obj l)).length≤600)(K6:Kp (fun _=>False) w w6)(hr:RR w6 (fun c=>w.heap.size≤c∧c < w6.heap.size) (.obj l) vb)(K:Kp (fun _=>False) w6 w')
  (hb:w'.heap[w6.heap.size]? =some (.cells #[.pointer (some ⟨vb,0,none⟩),sv,.int .i64 n,.string ⟨(aA l).toArray⟩] 263)) (row:w'.ownsRow w.heap.size 9 1 sv ss.length (ss.map fun s=>.string ⟨s.toArray⟩)) (hc:dI l=some (ss.map fun s=>⟨s,n,aA l,aG l s⟩)):RtR w text (.returned (.tuple #[.pointer (some ⟨w6.heap.size,0,none⟩),.int .i64 0])) w':=by
 have b:(aA l).length≤600:=Nat.le_trans (jT l) hle;have a:=K6.size;have d:=K.size;refine⟨K6.trans K,Or.inr ⟨l,ss,n,w6.heap.size,vb,sv,by unfold bM;rw[ho];simp only[hc],rfl, ?_⟩⟩;exact⟨hb,hr.frame (fun k hk=>K.block k hk.2 (by simp)) (fun k hk=>⟨hk.1,by omega⟩),row,hle,by omega,⟨a,ag hb⟩,fun k e=>(row.lt k e).2,Nat.le_refl _⟩
theorem CD(W:World)(hG:GL W)(text:Bs)(w:World)(hW:Below W.heap.size W w):
  Calls prog 144 #[.string ⟨text.toArray⟩] w fun e w'=>RtR w text e w':=by
 obtain⟨i0,hi,ak,al,am⟩:=info_parts ew;have L:=ae (gN W hG ⟨text.toArray⟩ w hW);have e9:(⟨text.toArray⟩:ByteArray).data.toList=text:=by simp
 rw[e9]at L;clear e9;go_enter func144,ntmps144;go_wp2_with fail
 refine L.o.mono ?_;rintro e w1 ⟨K1,⟨n,hn,H,rfl⟩ | ⟨l,q,H,ar,rfl,hr⟩⟩
 ·have HN:Hid (bM text=.error n):=by show _=_;unfold bM;rw[H]
  have aG:((n:Int) != 0)=true:=by simp;omega
  have HK:=ae (An K1 hn);clear H L K1 hn;go_wp2;go_ret2
  exact⟨HK.o.1,Or.inl ⟨n,HK.o.2,HN.o,rfl⟩⟩
 have ay:RR w1 (fun c=>c < w1.heap.size) (.obj l) q:=hr.frame (fun _ _=>rfl) (fun c hc=>hc.2);have PJ:PoJ w1 (some ⟨q,0,none⟩) (some (.obj l)):=Or.inr ⟨q,_,rfl,rfl,ar,ay⟩;have g:=ae (An H (An ar (An hr K1)));clear L H hr ay K1;go_wp2_with fail
 refine (fT w1 _ _ PJ lw).mono ?_;rintro e w2 ⟨po,rfl,rfl,PO⟩;go_wp2_with fail
 refine (fT w2 _ _ PJ lA).mono ?_;rintro e w3 ⟨ps,rfl,rfl,PS⟩;go_wp2_with fail
 refine (fT w3 _ _ PJ kTs).mono ?_;rintro e w4 ⟨pt,rfl,rfl,PT⟩;have au:bP lw (some (.obj l))=ai lw l:=rfl;have av:bP lA (some (.obj l))=ai lA l:=rfl;have ax:bP kTs (some (.obj l))=ai kTs l:=rfl;rw[au]at PO;rw[av]at PS;rw[ax]at PT;clear au av ax;go_wp2_with fail
 refine (jR w4 _ _ PO).mono ?_;rintro e w5 ⟨rfl,rfl⟩;go_wp2_with fail
 refine (ny w5 _ _ PT).mono ?_;rintro e i ⟨rfl,rfl⟩
 cases hno:(bs (ai lw l)).isSome with
 |false=>
  have v:dI l=none:=by
   unfold dI eE;rw[Option.isSome_eq_false_iff,Option.isNone_iff_eq_none]at hno;rw[hno];rfl
  have A:=ae v;clear v hno;generalize (cC (ai kTs l)).isSome=mb;rcases PS with⟨rfl,K⟩ | ⟨V,J,rfl,K,I,C⟩
  ·go_wp2
   go_ret2
   exact iW g.o.2.2.2 g.o.1 A.o
  ·have B:PoJ i (some ⟨V,0,none⟩) (some J):=Or.inr ⟨V,J,rfl,rfl,I,C⟩
   go_wp2_with fail
   refine (jR i _ _ B).mono ?_;rintro e w7 ⟨rfl,rfl⟩;generalize (bs (some J)).isSome=nb;go_wp2;go_ret2
   exact iW g.o.2.2.2 g.o.1 A.o
 |true=>
  obtain⟨o,ho,aI,aT⟩:=oC hno
  cases hmt:(cC (ai kTs l)).isSome with
  |false=>
   have v:dI l=none:=by
    unfold dI;rw[Option.isSome_eq_false_iff,Option.isNone_iff_eq_none]at hmt;rw[hmt];cases eE l <;> rfl
   have A:=ae v;clear v hmt hno;rcases PS with⟨rfl,K⟩ | ⟨V,J,rfl,K,I,C⟩
   ·go_wp2
    go_ret2
    exact iW g.o.2.2.2 g.o.1 A.o
   ·have B:PoJ i (some ⟨V,0,none⟩) (some J):=Or.inr ⟨V,J,rfl,rfl,I,C⟩
    go_wp2_with fail
    refine (jR i _ _ B).mono ?_;rintro e w7 ⟨rfl,rfl⟩;generalize (bs (some J)).isSome=nb;go_wp2;go_ret2
    exact iW g.o.2.2.2 g.o.1 A.o
  |true=>
   obtain⟨n,hn,aH⟩:=xq hmt;rw[ho]at PO;rw[hn]at PT;rcases PO with⟨_,h⟩ | ⟨ob,jo,rfl,ac,_,aJ⟩
   ·cases h
   injection ac with ac
   subst ac;rcases PT with⟨_,h⟩ | ⟨tb,jt,rfl,ad,_,aK⟩
   ·cases h
   injection ad with ad
   subst ad
   cases aJ with
   |str _ hFo hbo=>
    cases aK with
    |num _ aG hFt hbt=>
     obtain⟨o0,o1,o2,o3,o4,_,_,_,_,_,aO⟩:=aw hbo;obtain⟨t0,t1,t2,t3,t4,_,_,_,_,_,aQ⟩:=aw hbt;have A:=ae (An aI aH);clear hno hmt ho hn;rcases PS with⟨rfl,K⟩ | ⟨V,J,rfl,K,I,C⟩
     ·have HS:=ae K
      clear K;have Z:Kp (fun _=>False) i (i.alloc (.cells #[.pointer (some ⟨q,0,none⟩),.slice none 0 0,.int .i64 n,.string ⟨#[]⟩] 263)):=(Kp.refl _ _).alloc _;have IE:=heap_alloc_new i (.cells #[.pointer (some ⟨q,0,none⟩),.slice none 0 0,.int .i64 n,.string ⟨#[]⟩] 263);have E:=ae (oK g.o.2.2.1 (fun _ hk=>hk.2) (by omega) Z);go_wp2_with fail
      generalize (i.alloc (.cells #[.pointer (some ⟨q,0,none⟩),.slice none 0 0,.int .i64 n,.string ⟨#[]⟩] 263))=wE at *;refine E.o.mono ?_;rintro e w7 ⟨rfl,Y⟩;have G:=Z.trans Y;have F:=Y.heap IE;have M:=wN (m:=.string ⟨(aA l).toArray⟩) F;have N:Kp (fun _=>False) i (w7.setCell ⟨i.heap.size,3,none⟩ (.string ⟨(aA l).toArray⟩)):=Kp.setCell (p:=⟨i.heap.size,3,none⟩) G (fun e=>absurd e (Nat.lt_irrefl _)) _;obtain⟨_,_,_,aa⟩:=gK F;have HI:=ae F;clear Y Z IE E;obtain⟨q0,q1,q2,q3,ah⟩:=dr (b:=i.heap.size) (pv:=some ⟨q,0,none⟩) (sv:=.slice none 0 0) (at':=n) (msg:=[]) F;have p2:=N.cel o2;obtain⟨r0,r1,r2,r3,aj⟩:=dr M;obtain⟨z0,z1,z2,z3⟩:=gK M;have aL:=g.o.2.2.2.size;have aM:=N.size;go_wp2_with fail
      generalize (w7.setCell ⟨i.heap.size,3,none⟩ (.string ⟨(aA l).toArray⟩))=wM at *;clear q0 q1 q2 q3 ah aa G F HI
      obtain⟨v9,x,ab,o9,g9,n9,a9⟩:=run_append_own_at (P:=prog) (w:=(wM.alloc (.cells #[.string ⟨o.toArray⟩] 9)).drew) w.heap.size 36 36 9 i0 (.string ⟨#[]⟩) 1 16 underlying36 hi ak al am rfl (by decide) (.slice none 0 0) 0 [] (World.ownsRow_nil _ _ _ _) ⟨wM.heap.size,0,none⟩ 1 1 [.string ⟨o.toArray⟩] rfl (by
        intro j u S;rcases j with _ | j
        all_goals simp at S
        subst S;simp[Addr.add]) (by intro u T;simp at T;subst T;rfl) (by unfold maxLen;omega) (by omega) (by show _≤(wM.alloc _).heap.size;simp;omega)
      obtain⟨a,d,rfl⟩:=aE o9
      have X:x.heap[i.heap.size]? =some (.cells #[.pointer (some ⟨q,0,none⟩),.slice none 0 0,.int .i64 n,.string ⟨(aA l).toArray⟩] 263):=by
       rw[g9.block _ (by show _ < (wM.alloc _).heap.size;simp;omega) (fun e=>by cases e)];exact (Below.heap_alloc _ _ _ aj).trans M
      have K9:Kp (fun _=>False) i x:=((N.alloc _).drew).gr g9 (fun r e=>by cases e);obtain⟨y0,y1,y2,y3⟩:=gK X;obtain⟨x0,x1,x2,x3,aN⟩:=dr (pv:=some ⟨q,0,none⟩) (sv:=.slice none 0 0) (at':=n) (msg:=aA l) X;have Q:=qT (m:=.slice a 1 d) X;have R:Kp (fun _=>False) i (x.setCell ⟨i.heap.size,1,none⟩ (.slice a 1 d)):=Kp.setCell (p:=⟨i.heap.size,1,none⟩) K9 (fun e=>absurd e (Nat.lt_irrefl _)) _
      have t:(Value.slice a 1 d).ownBlock≠some i.heap.size:=by
       intro e;rcases a9 with h | h
       ·rw[h]at e;cases e
       ·rw[h]at e
        injection e with e
        have:(wM.alloc (.cells #[.string ⟨o.toArray⟩] 9)).drew.heap.size=wM.heap.size+1:=by show (wM.alloc _).heap.size=_;simp
        omega
      have U:(x.setCell ⟨i.heap.size,1,none⟩ (.slice a 1 d)).ownsRow w.heap.size 9 1 (.slice a 1 d) 1 [.string ⟨o.toArray⟩]:=ap o9 (fun k hk=>af (by rintro rfl;exact t hk));have D:=ae (An R (An Q U));clear K9 Q R U o9 g9 n9 a9 N M;refine fG ?_ (x.setCell ⟨i.heap.size,1,none⟩ (.slice a 1 d)) ?_ ?_;rotate_left
      ·go_region_law (refine dq rfl _ _ _ rfl _ _ (.slice a 1 d) x (by simp[Act.eval]) (by simp[Act.eval]) ab ?_)
       all_goals exact cF
      go_wp2;go_quiet (fail)
      go_wp2;go_ret2
      exact pD (ss:=[o]) g.o.1 g.o.2.1 g.o.2.2.2 g.o.2.2.1 (D.o.1.trans ((Kp.refl _ _).drewN _)) (((Kp.refl _ _).drewN _).heap D.o.2.1) (an D.o.2.2 ((Kp.refl (fun _=>False) _).drewN _) (fun _ _ h=>h)) (by unfold dI eE;rw[A.o.1,A.o.2];simp only[Option.bind_some,HS.o];rfl)
     ·have B:PoJ i (some ⟨V,0,none⟩) (some J):=Or.inr ⟨V,J,rfl,rfl,I,C⟩
      go_wp2_with fail
      refine (jR i _ _ B).mono ?_;rintro e f ⟨rfl,rfl⟩
      cases hns:(bs (some J)).isSome with
      |false=>
       have v:dI l=none:=by
        unfold dI eE;rw[Option.isSome_eq_false_iff,Option.isNone_iff_eq_none]at hns;rw[A.o.1];simp only[Option.bind_some,K,hns];rfl
       have aB:=ae v;clear v hns;go_wp2;go_ret2
       exact iW g.o.2.2.2 g.o.1 aB.o
      |true=>
       obtain⟨s,O,az,aU⟩:=oC hns;injection O with O
       subst O
       cases C with
       |str _ hFs hbs=>
        obtain⟨s0,s1,s2,s3,s4,_,_,_,_,_,aP⟩:=aw hbs;have HS:=ae (An K az);clear K az hns B;have Z:Kp (fun _=>False) f (f.alloc (.cells #[.pointer (some ⟨q,0,none⟩),.slice none 0 0,.int .i64 n,.string ⟨#[]⟩] 263)):=(Kp.refl _ _).alloc _;have IE:=heap_alloc_new f (.cells #[.pointer (some ⟨q,0,none⟩),.slice none 0 0,.int .i64 n,.string ⟨#[]⟩] 263);have E:=ae (oK g.o.2.2.1 (fun _ hk=>hk.2) (by omega) Z);go_wp2_with fail
        generalize (f.alloc (.cells #[.pointer (some ⟨q,0,none⟩),.slice none 0 0,.int .i64 n,.string ⟨#[]⟩] 263))=wE at *;refine E.o.mono ?_;rintro e w7 ⟨rfl,Y⟩;have G:=Z.trans Y;have F:=Y.heap IE;have M:=wN (m:=.string ⟨(aA l).toArray⟩) F;have N:Kp (fun _=>False) f (w7.setCell ⟨f.heap.size,3,none⟩ (.string ⟨(aA l).toArray⟩)):=Kp.setCell (p:=⟨f.heap.size,3,none⟩) G (fun e=>absurd e (Nat.lt_irrefl _)) _;obtain⟨_,_,_,aa⟩:=gK F;have HI:=ae F;clear Y Z IE E;obtain⟨q0,q1,q2,q3,ah⟩:=dr (b:=f.heap.size) (pv:=some ⟨q,0,none⟩) (sv:=.slice none 0 0) (at':=n) (msg:=[]) F;have p2:=N.cel o2;obtain⟨r0,r1,r2,r3,aj⟩:=dr M;obtain⟨z0,z1,z2,z3⟩:=gK M;have aL:=g.o.2.2.2.size;have aM:=N.size;go_wp2_with fail
        generalize (w7.setCell ⟨f.heap.size,3,none⟩ (.string ⟨(aA l).toArray⟩))=wM at *;clear q0 q1 q2 q3 ah aa G F HI
        obtain⟨v9,x,ab,o9,g9,n9,a9⟩:=run_append_own_at (P:=prog) (w:=(wM.alloc (.cells #[.string ⟨o.toArray⟩] 9)).drew) w.heap.size 36 36 9 i0 (.string ⟨#[]⟩) 1 16 underlying36 hi ak al am rfl (by decide) (.slice none 0 0) 0 [] (World.ownsRow_nil _ _ _ _) ⟨wM.heap.size,0,none⟩ 1 1 [.string ⟨o.toArray⟩] rfl (by
          intro j u S;rcases j with _ | j
          all_goals simp at S
          subst S;simp[Addr.add]) (by intro u T;simp at T;subst T;rfl) (by unfold maxLen;omega) (by omega) (by show _≤(wM.alloc _).heap.size;simp;omega)
        obtain⟨a,d,rfl⟩:=aE o9
        have X:x.heap[f.heap.size]? =some (.cells #[.pointer (some ⟨q,0,none⟩),.slice none 0 0,.int .i64 n,.string ⟨(aA l).toArray⟩] 263):=by
         rw[g9.block _ (by show _ < (wM.alloc _).heap.size;simp;omega) (fun e=>by cases e)];exact (Below.heap_alloc _ _ _ aj).trans M
        have K9:Kp (fun _=>False) f x:=((N.alloc _).drew).gr g9 (fun r e=>by cases e);obtain⟨y0,y1,y2,y3⟩:=gK X;obtain⟨x0,x1,x2,x3,aN⟩:=dr (pv:=some ⟨q,0,none⟩) (sv:=.slice none 0 0) (at':=n) (msg:=aA l) X;have Q:=qT (m:=.slice a 1 d) X;have R:Kp (fun _=>False) f (x.setCell ⟨f.heap.size,1,none⟩ (.slice a 1 d)):=Kp.setCell (p:=⟨f.heap.size,1,none⟩) K9 (fun e=>absurd e (Nat.lt_irrefl _)) _
        have t:(Value.slice a 1 d).ownBlock≠some f.heap.size:=by
         intro e;rcases a9 with h | h
         ·rw[h]at e;cases e
         ·rw[h]at e
          injection e with e
          have:(wM.alloc (.cells #[.string ⟨o.toArray⟩] 9)).drew.heap.size=wM.heap.size+1:=by show (wM.alloc _).heap.size=_;simp
          omega
        have U:(x.setCell ⟨f.heap.size,1,none⟩ (.slice a 1 d)).ownsRow w.heap.size 9 1 (.slice a 1 d) 1 [.string ⟨o.toArray⟩]:=ap o9 (fun k hk=>af (by rintro rfl;exact t hk));have D:=ae (An R (An Q U))
        have aC:(Value.slice a 1 d).ownBlock=none∨(Value.slice a 1 d).ownBlock=some (wM.heap.size+1):=by
         rcases a9 with h | h
         ·exact Or.inl h
         ·exact Or.inr (h.trans (by show some (wM.alloc _).heap.size=_;simp))
        clear K9 Q R U o9 g9 n9 a9 N M;refine fG ?_ (x.setCell ⟨f.heap.size,1,none⟩ (.slice a 1 d)) ?_ ?_;rotate_left
        ·go_region_law (refine dq rfl _ _ _ rfl _ _ (.slice a 1 d) x (by simp[Act.eval]) (by simp[Act.eval]) ab ?_)
         all_goals exact cF
        have m1:=D.o.1.cel o2;have m2:=D.o.1.cel s2;by_cases he:s=o
        ·have aF:(s == o)=true:=by simpa using he
         have HE:=ae he;clear he;go_wp2;go_quiet (fail)
         go_wp2;go_ret2
         exact pD (ss:=[o]) g.o.1 g.o.2.1 g.o.2.2.2 g.o.2.2.1 (D.o.1.trans ((Kp.refl _ _).drewN _)) (((Kp.refl _ _).drewN _).heap D.o.2.1) (an D.o.2.2 ((Kp.refl (fun _=>False) _).drewN _) (fun _ _ h=>h)) (by rw[t7 A.o.1 A.o.2 HS.o.1 HS.o.2,if_pos HE.o])
        ·have aF:(s == o)=false:=by simpa using he
         have HE:=ae he;clear he;go_wp2;go_quiet (fail)
         go_wp2_with fail
         have KY:=D.o.1.trans ((Kp.refl (fun _=>False) (x.setCell ⟨f.heap.size,1,none⟩ (.slice a 1 d))).drewN nq);have IY:=((Kp.refl (fun _=>False) (x.setCell ⟨f.heap.size,1,none⟩ (.slice a 1 d))).drewN nq).heap D.o.2.1;have rY:=an D.o.2.2 ((Kp.refl (fun _=>False) _).drewN nq) (fun _ _ h=>h);generalize (x.setCell ⟨f.heap.size,1,none⟩ (.slice a 1 d)).drewN nq=wY at *;have e2:=KY.cel s2;have aD:=ag IY;have O:=KY.size;obtain⟨u0,u1,u2,u3⟩:=gK IY;obtain⟨k0,k1,k2,k3,aS⟩:=dr (pv:=some ⟨q,0,none⟩) (sv:=.slice a 1 d) (at':=n) (msg:=aA l) IY
         obtain⟨v8,w8,ao,o8,g8,n8,a8⟩:=run_append_own_at (P:=prog) (w:=(wY.alloc (.cells #[.string ⟨s.toArray⟩] 9)).drew) w.heap.size 36 36 9 i0 (.string ⟨#[]⟩) 1 16 underlying36 hi ak al am rfl (by decide) (.slice a 1 d) 1 [.string ⟨o.toArray⟩] (rY.alloc _) ⟨wY.heap.size,0,none⟩ 1 1 [.string ⟨s.toArray⟩] rfl (by
           intro j u S;rcases j with _ | j
           all_goals simp at S
           subst S;simp[Addr.add]) (by intro u T;simp at T;subst T;rfl) (by unfold maxLen;omega) (by omega) (by show _≤(wY.alloc _).heap.size;simp;omega)
         obtain⟨y,z,rfl⟩:=aE o8
         have I8:w8.heap[f.heap.size]? =some (.cells #[.pointer (some ⟨q,0,none⟩),.slice a 1 d,.int .i64 n,.string ⟨(aA l).toArray⟩] 263):=by
          rw[g8.block _ (by show _ < (wY.alloc _).heap.size;simp;omega) (fun e=>t e.symm)];exact (Below.heap_alloc _ _ _ aD).trans IY
         have K8:Kp (fun _=>False) f w8:=((KY.alloc _).drew).gr g8 (fun r e=>by
           rcases aC with h | h
           · rw[h]at e;cases e
           · rw[h]at e;injection e with e;omega)
         obtain⟨c0,c1,c2,c3⟩:=gK I8;obtain⟨d0,d1,d2,d3,aR⟩:=dr (pv:=some ⟨q,0,none⟩) (sv:=.slice a 1 d) (at':=n) (msg:=aA l) I8;have Q:=qT (m:=.slice y 2 z) I8;have R:Kp (fun _=>False) f (w8.setCell ⟨f.heap.size,1,none⟩ (.slice y 2 z)):=Kp.setCell (p:=⟨f.heap.size,1,none⟩) K8 (fun e=>absurd e (Nat.lt_irrefl _)) _
         have aq:(Value.slice y 2 z).ownBlock≠some f.heap.size:=by
          intro e;rcases a8 with h | h
          ·exact t (h.symm.trans e)
          ·rw[h]at e
           injection e with e
           have:(wY.alloc (.cells #[.string ⟨s.toArray⟩] 9)).drew.heap.size=wY.heap.size+1:=by show (wY.alloc _).heap.size=_;simp
           omega
         have U:(w8.setCell ⟨f.heap.size,1,none⟩ (.slice y 2 z)).ownsRow w.heap.size 9 1 (.slice y 2 z) 2 [.string ⟨o.toArray⟩,.string ⟨s.toArray⟩]:=ap o8 (fun k hk=>af (by rintro rfl;exact aq hk));have H8:=ae (An R (An Q U));clear K8 Q R U o8 g8 n8 a8 KY IY rY;refine fG ?_ (w8.setCell ⟨f.heap.size,1,none⟩ (.slice y 2 z)) ?_ ?_;rotate_left
         ·go_region_law (refine dq rfl _ _ _ rfl _ _ (.slice y 2 z) w8 (by simp[Act.eval]) (by simp[Act.eval]) ao ?_)
          all_goals exact cF
         go_wp2;go_ret2
         exact pD (ss:=[o,s]) g.o.1 g.o.2.1 g.o.2.2.2 g.o.2.2.1 H8.o.1 H8.o.2.1 H8.o.2.2 (by rw[t7 A.o.1 A.o.2 HS.o.1 HS.o.2,if_neg HE.o])
end
end Go.Proofs.YtocligpfmfmihaaGreatDoor
