import Derived.Test.YtocligpfmfmihaaGreatDoorParG
set_option maxHeartbeats 4000000
set_option maxRecDepth 20000
namespace Go.Proofs.YtocligpfmfmihaaGreatDoor
open Go.Proofs.Tryz
section
open Go Go.RowKit
variable{W w w':World}{rb k:Nat}{s:ByteArray}{bad:Bool}
theorem Rs.at2(h:Rs W w rb s k bad)(k':Nat)(b:Bool)(h1:k'≤s.size+9)(h2:b=false→k'≤s.size):Rs W ((w.setCell ⟨rb,1,none⟩ (.int .i64 k')).setCell ⟨rb,2,none⟩ (.bool b)) rb s k' b:=by
 refine⟨h.gl,(h.old.setCell (p:=⟨rb,1,none⟩) h.ge _).setCell (p:=⟨rb,2,none⟩) h.ge _, ?_,h.ge,h.sz,h1,h2⟩;have:=h.rdr;simp[World.setCell,Array.getElem?_modify,this]
theorem dn(h:Rs W w rb s k bad)(t:ByteArray)(ht:t.size≤10):
  Calls prog 125 #[.pointer (some ⟨rb,0,none⟩),.string t] w fun e w'=>e=.returned (.tuple #[])∧Kp (· =rb) w w' ∧
   ∃k' bad',Rs W w' rb s k' bad'∧(k'≤k∨k'≤s.size)∧((bad=false∧bad'=false∧∃r,ah s k=t.data.toList ++r∧ah s k'=r)∨(bad'=true∧k'=k∧(bad=true∨∀r,ah s k≠t.data.toList ++r))):=by
 cases bad with
 |true=>
  refine (em h t).mono ?_;rintro e w1 ⟨rfl,b,a⟩;exact⟨rfl,b,k,true,a,Or.inl (Nat.le_refl _),Or.inr ⟨rfl,rfl,Or.inl rfl⟩⟩
 |false=>
  by_cases hp:∃r,ah s k=t.data.toList ++r
  ·obtain⟨r,hp⟩:=hp
   refine (fN h t ht r hp).mono ?_;rintro e w1 ⟨rfl,b,d,a,c⟩;exact⟨rfl,b,d,false,a,Or.inr (a.good rfl),Or.inl ⟨rfl,rfl,r,hp,c⟩⟩
  ·refine (CS h t ht (fun r e=>hp ⟨r,e⟩)).mono ?_
   rintro e w1 ⟨rfl,b,a⟩;exact⟨rfl,b,k,true,a,Or.inl (Nat.le_refl _),Or.inr ⟨rfl,rfl,Or.inr fun r e=>hp ⟨r,e⟩⟩⟩
def EsR(W w:World)(rb:Nat)(s:ByteArray)(o:Option (Nat×Bs))(e:Ending)(w':World):Prop:=
 ∃v:Int,e=.returned (.int .i32 v)∧0≤v∧v < 100000000∧Kp (· =rb) w w'∧∃k' bad',Rs W w' rb s k' bad'∧match o with | some (x,r)=>bad'=false∧v=(x:Int)∧ah s k'=r | none=>bad'=true
theorem ej{o:Option (Nat×Bs)}{x k':Nat}{r:Bs}(ho:o=some (x,r))(hx:x < 100000000)(hk:Kp (· =rb) w w')(hs:Rs W w' rb s k' false)(hr:ah s k'=r):EsR W w rb s o (.returned (.int .i32 (x:Int))) w':=by
 subst ho;exact⟨_,rfl,by omega,by omega,hk,k',false,hs,rfl,rfl,hr⟩
theorem iC{o:Option (Nat×Bs)}{k':Nat}{v:Int}(ho:o=none)(h0:0≤v)(h1:v < 100000000)(hk:Kp (· =rb) w w')(hs:Rs W w' rb s k' true):EsR W w rb s o (.returned (.int .i32 v)) w':=by
 subst ho;exact⟨_,rfl,h0,h1,hk,k',true,hs,rfl⟩
theorem DF(h:Rs W w rb s k false)(l:Bs)(hl:ah s k=92 :: l):
  Calls prog 171 #[.pointer (some ⟨rb,0,none⟩)] w fun e w'=>EsR W w rb s (esc l) e w':=by
 have ap:=h.sz;go_enter func171,ntmps171;go_wp2_with fail
 refine (fN h ⟨#[92]⟩ (by decide) l hl).mono ?_;rintro e w1 ⟨rfl,K1,f,A,r1⟩;clear hl;have hg:=A.good rfl;obtain⟨c0,c1,c2,f1,f2,hb⟩:=A.facts;have O:=eZ s f;rw[r1]at O;have ac:ah s (f+1)=l.tail:=by rw[gx,r1,List.drop_one]
 have R:=ae (An r1 ac);clear r1 ac;go_wp2_with fail
 refine (dP A).mono ?_;rintro e w2 ⟨rfl,n,rfl⟩;rw[R.o.1];have aa:∀u:Value,Kp (· =rb) w ((w1.drewN n).setCell ⟨rb,1,none⟩ u):=fun u=>Kp.setCell (p:=⟨rb,1,none⟩) (K1.drewN n) (fun _=>rfl) u
 have d:=ae aa;clear aa;rcases l with _ | ⟨c,t⟩
 ·simp only[nxt,List.headD_nil]
  go_wp2;go_ret;exact iC rfl (by omega) (by omega) (Kp.setCell (p:=⟨rb,2,none⟩) (d.o _) (fun _=>rfl) _) ((A.drewN n).at2 (f+1) true (by omega) (fun e=>by cases e))
 simp only[nxt,List.headD_cons];simp only[List.length_cons]at O;by_cases J:c=34
 ·subst J
  go_wp2;go_ret;exact ej (x:=34) (k':=f+1) (by simp[esc]) (by omega) (d.o _) ((A.drewN n).at (f+1) (by omega) (fun _=>by omega)) R.o.2
 by_cases L:c=92
 ·subst L
  go_wp2;go_ret;exact ej (x:=92) (k':=f+1) (by simp[esc]) (by omega) (d.o _) ((A.drewN n).at (f+1) (by omega) (fun _=>by omega)) R.o.2
 by_cases K:c=47
 ·subst K
  go_wp2;go_ret;exact ej (x:=47) (k':=f+1) (by simp[esc]) (by omega) (d.o _) ((A.drewN n).at (f+1) (by omega) (fun _=>by omega)) R.o.2
 by_cases M:c=98
 ·subst M
  go_wp2;go_ret;exact ej (x:=8) (k':=f+1) (by simp[esc]) (by omega) (d.o _) ((A.drewN n).at (f+1) (by omega) (fun _=>by omega)) R.o.2
 by_cases j:c=102
 ·subst j
  go_wp2;go_ret;exact ej (x:=12) (k':=f+1) (by simp[esc]) (by omega) (d.o _) ((A.drewN n).at (f+1) (by omega) (fun _=>by omega)) R.o.2
 by_cases m:c=110
 ·subst m
  go_wp2;go_ret;exact ej (x:=10) (k':=f+1) (by simp[esc]) (by omega) (d.o _) ((A.drewN n).at (f+1) (by omega) (fun _=>by omega)) R.o.2
 by_cases v:c=114
 ·subst v
  go_wp2;go_ret;exact ej (x:=13) (k':=f+1) (by simp[esc]) (by omega) (d.o _) ((A.drewN n).at (f+1) (by omega) (fun _=>by omega)) R.o.2
 by_cases y:c=116
 ·subst y
  go_wp2;go_ret;exact ej (x:=9) (k':=f+1) (by simp[esc]) (by omega) (d.o _) ((A.drewN n).at (f+1) (by omega) (fun _=>by omega)) R.o.2
 have af:=u8n J;have ai:=u8n L;have ag:=u8n K;have aj:=u8n M;have P:=u8n j;have Q:=u8n m;have S:=u8n v;have T:=u8n y;have D:=ae (An J (An L (An K (An M (An j (An m (An v y)))))));clear J L K M j m v y;simp only[UInt8.reduceToNat,Int.cast_ofNat_Int]at af ai ag aj P Q S T;by_cases z:c=117
 ·subst z
  clear af ai ag aj P Q S T;have S1:=(A.drewN n).at (f+1) (by omega) (fun _=>by omega);have he:esc (117 :: t)=dJ t:=by simp[esc]
  have E:=ae he;clear he D;go_wp2_with fail
  refine (Ax S1 (by omega)).mono ?_;rintro e w3 ⟨rfl,K3,h3⟩;have hX:=om (ah s (f+1)) 4;have h4:=rg t;have i:=pg t 4;rw[R.o.2]at h3 hX ⊢;simp only[List.tail_cons]at h3 hX ⊢;have G:ah s (f+1+4)=t.drop 4:=by rw[gx,R.o.2];rfl
  generalize hxs t 4=X at *;obtain⟨X,ok⟩:=X;simp only[Bool.false_or]at h3 hX h4 i ⊢;have U:=(d.o _).trans K3;have C:=ae (An h4 (An G i));clear h4 G i K3 S1;by_cases hx:X < 55296∨57343 < X
  ·have done:EsR W w rb s (esc (117 :: t)) (.returned (.int .i32 (X:Int))) w3:=by
    cases ok with
    |true=>
     refine ej ?_ (by omega) U h3 C.o.2.1;rw[E.o,dJ,C.o.1];simp[hx]
    |false=>
     refine iC ?_ (by omega) (by omega) U h3;rw[E.o,dJ,C.o.1];simp
   have DN:=ae done;clear done;by_cases ak:(X:Int) < 55296
   ·go_wp2
    go_ret;exact DN.o
   ·have al:(57343:Int) < X:=by omega
    go_wp2;go_ret;exact DN.o
  ·have ak:¬((X:Int) < 55296):=by omega
   have al:¬((57343:Int) < X):=by omega
   have HX:=ae hx;clear hx;go_wp2_with fail
   refine (dn h3 ⟨#[92,117]⟩ (by decide)).mono ?_;rintro e w4 ⟨rfl,K4,k4,F,h5,ao,hw⟩;have HW:=ae hw;clear hw;go_wp2_with fail
   refine (Ax h5 (by omega)).mono ?_;rintro e w5 ⟨rfl,K5,h6⟩;have hY:=om (ah s k4) 4;have g4:=rg (ah s k4);have G:ah s (k4+4)=(ah s k4).drop 4:=gx _ _ _;generalize hxs (ah s k4) 4=Y at *;obtain⟨Y,I⟩:=Y;simp only at h6 hY g4 ⊢;have G4:=ae (An g4 G);clear g4 G;have V:=(U.trans K4).trans K5;obtain⟨d0,d1,d2,q1,q2,an⟩:=h6.facts;have val:(65536+((X:Int) - 55296)*1024+(Y:Int)) - 56320=((65536+(X - 55296)*1024+Y - 56320:Nat):Int):=by omega
   by_cases hc:56319 < X∨Y < 56320∨57343 < Y
   ·have H:esc (117 :: t)=none:=by
     rw[E.o,dJ,C.o.1]
     cases ok with
     |false=>rfl
     |true=>
      simp only[if_true];rw[if_neg HX.o];by_cases h7:56319 < X
      ·rw[if_pos h7]
      ·rw[if_neg h7]
       rcases HW.o with⟨_,b4,r,p1,p2⟩ | ⟨b4,_,B⟩
       ·have p3:=C.o.2.1.symm.trans p1
        show (match t.drop 4 with | a :: b :: q=>_ | _=>_)=none
        rw[p3];simp only[List.cons_append,List.nil_append,and_self,if_true];rw[p2]at G4;rw[G4.o.1]
        cases I with
        |false=>rfl
        |true=>
         simp only[if_true];rw[if_neg (by omega)]
       ·rcases B with B | B
        ·cases B
        ·rw[C.o.2.1]at B
         show (match t.drop 4 with | a :: b :: q=>_ | _=>_)=none
         split
         ·rename_i a b q hq
          rw[if_neg];rintro⟨rfl,rfl⟩;exact B q hq
         ·rfl
    have NN:=ae H;clear H;have cs:(56319:Int) < X∨(¬(56319:Int) < X∧(Y:Int) < 56320)∨(¬(56319:Int) < X∧¬(Y:Int) < 56320∧(57343:Int) < Y):=by omega
    clear hc;rcases cs with b1 | ⟨b1,b2⟩ | ⟨b1,b2,b3⟩
    all_goals
     go_wp2;go_ret;exact iC NN.o (by omega) (by omega) (Kp.setCell (p:=⟨rb,2,none⟩) V (fun _=>rfl) _) (h6.turn true (fun e=>by cases e))
   ·have b1:¬(56319:Int) < X:=by omega
    have b2:¬(Y:Int) < 56320:=by omega
    have b3:¬(57343:Int) < Y:=by omega
    have N:EsR W w rb s (esc (117 :: t)) (.returned (.int .i32 ((65536+(X - 55296)*1024+Y - 56320:Nat):Int))) w5:=by
     by_cases Z:F=false∧I=true
     ·obtain⟨rfl,rfl⟩:=Z
      rcases HW.o with⟨o1,_,r,p1,p2⟩ | ⟨b4,_⟩
      ·have am:ok=true:=by simpa using o1
       subst am;refine ej ?_ (by omega) V (by simpa using h6) rfl;have p3:=C.o.2.1.symm.trans p1;rw[E.o,dJ,C.o.1];simp only[if_true];rw[if_neg HX.o,if_neg (by omega)];show (match t.drop 4 with | a :: b :: q=>_ | _=>_)=_
       rw[p3];simp only[List.cons_append,List.nil_append,and_self,if_true];have g:=G4.o.1;rw[p2]at g;rw[g];simp only[if_true];rw[if_pos (by omega),G4.o.2,p2];exact congrArg some (Prod.ext (by show _=_;omega) rfl)
      ·cases b4
     ·have ab:(F || !I)=true:=by
       cases F <;> cases I <;> simp_all
      rw[ab]at h6;refine iC ?_ (by omega) (by omega) V h6;rw[E.o,dJ,C.o.1]
      cases ok with
      |false=>rfl
      |true=>
       simp only[if_true];rw[if_neg HX.o,if_neg (by omega)];show (match t.drop 4 with | a :: b :: q=>_ | _=>_)=none
       rcases HW.o with⟨_,b4,r,p1,p2⟩ | ⟨b4,_,B⟩
       ·have p3:=C.o.2.1.symm.trans p1
        rw[p3];simp only[List.cons_append,List.nil_append,and_self,if_true];have g:=G4.o.1;rw[p2]at g;rw[g]
        have:I=false:=by
         subst b4;simpa using ab
        subst this;rfl
       ·rcases B with B | B
        ·cases B
        ·rw[C.o.2.1]at B
         split
         ·rename_i a b q hq
          rw[if_neg];rintro⟨rfl,rfl⟩;exact B q hq
         ·rfl
    have FI:=ae N;clear N hc;go_wp2;go_ret;exact FI.o
 have ad:=u8n z;simp only[UInt8.reduceToNat,Int.cast_ofNat_Int]at ad;have D2:=ae z;clear z;go_wp2;go_ret;refine iC ?_ (by omega) (by omega) (Kp.setCell (p:=⟨rb,2,none⟩) (d.o _) (fun _=>rfl) _) ((A.drewN n).at2 (f+1) true (by omega) (fun e=>by cases e));obtain⟨d0,d1,d2,d3,d4,d5,d6,d7⟩:=D.o;simp[esc,d0,d1,d2,d3,d4,d5,d6,d7,D2.o]
end
section
open Go Go.RowKit Go.Maps
variable{W w w':World}{rb k:Nat}{s:ByteArray}{bad:Bool}
theorem dN{w:World}{B:Nat}{e:TypeId}{sz n:Nat}{v:Value}{xs:List Value}(h:w.ownsRow B e sz v n xs):w.ownsRow 0 e sz v n xs:=by
 obtain⟨d,c⟩:=h;refine⟨d, ?_⟩;rcases c with c | ⟨g,a,b,rfl,f,r⟩
 ·exact Or.inl c
 ·exact Or.inr ⟨g,a,b,rfl,Nat.zero_le _,r⟩
theorem ArI.tree{lo vb:Nat}{x:List (J×Nat)}{L:Value}{G:Nat→Prop}(h:ArI lo vb x L G w)(hlo:lo≤vb):RR w (fun c=>lo≤c∧c < w.heap.size) (.arr (x.map (·.1))) vb:=
 .arr x L ⟨hlo,ag h.blk⟩ h.blk (dN h.row) (fun k hk=>h.row.lt k hk) (fun j c hm=>(h.trs j c hm).frame (fun _ _=>rfl) (fun k hk=>⟨(h.old k hk).1,(h.old k hk).2.1⟩))
theorem ez{a b:Option Nat}{n:Nat}(h:a=b∨a=some (n+1)):a=b∨∃q,n≤q∧a=some q:=by
 rcases h with h | h
 ·exact Or.inl h
 ·exact Or.inr ⟨_,Nat.le_succ _,h⟩
theorem eI{l:Bs}{c:UInt8}(h:nxt l=c)(hc:c≠0):∃q,l=c :: q:=by
 cases l with
 |nil=>exact absurd h.symm hc
 |cons a l=>exact⟨l,by rw[←h];rfl⟩
theorem rX(h:Rs W w rb s k bad)(D:Int)(j:bad=true∨6 < D):
  Calls prog 127 #[.pointer (some ⟨rb,0,none⟩),.int .i64 D] w fun e w'=>TrR W w rb s none e w':=by
 have r:∀o,Rs W (w.alloc o) rb s k bad:=fun o=>h.keep (S:=fun _=>False) ((Kp.refl _ _).alloc _) (by simp) (by simp)
 go_enter func127,ntmps127;go_wp2_with fail
 refine (dn (r _) ⟨#[91]⟩ (by decide)).mono ?_;rintro e w1 ⟨rfl,b,I,a,t,_,q⟩
 have l:a=true∨6 < D:=by
  rcases q with⟨f,x,_⟩ | ⟨f,_⟩
  ·rcases j with e | e
   ·rw[f]at e;cases e
   ·exact Or.inr e
  ·exact Or.inl f
 clear q j;replace b:=((Kp.refl (· =rb) w).alloc _).trans b;go_wp2_with fail
 refine (aV t).mono ?_;rintro e w2 ⟨rfl,c,J,n,_⟩;replace c:=b.trans c;have g:=n.turn true (fun e=>by cases e);have m:Kp (· =rb) w (w2.setCell ⟨rb,2,none⟩ (.bool true)):=Kp.setCell (p:=⟨rb,2,none⟩) c (fun _=>rfl) _;obtain⟨y,z,A,f1,f2,H⟩:=n.facts;obtain⟨B,C,E,F,G,u⟩:=g.facts
 cases a with
 |true=>
  go_wp2_with fail
  refine (em g ⟨#[93]⟩).mono ?_;rintro e v ⟨rfl,d,i⟩;go_wp2;go_ret;exact bI rfl (m.trans d) i
 |false=>
  have j:6 < D:=l.resolve_left (by simp);go_wp2_with fail
  refine (em g ⟨#[93]⟩).mono ?_;rintro e v ⟨rfl,d,i⟩;go_wp2;go_ret;exact bI rfl (m.trans d) i
theorem DC(D:Nat)(hD:D≤6)(hv:VlC W D)(h:Rs W w rb s k false)(t:Bs)(hl:ah s k=91 :: t):
  Calls prog 127 #[.pointer (some ⟨rb,0,none⟩),.int .i64 (D:Int)] w fun e w'=>
   TrR W w rb s ((bD (pEl (az true (6 - D))) 93 [] t).map fun x=>(.arr x.1,x.2)) e w':=by
 have aB:=h.sz;have aA:=(h.facts).2.2.2.2.2;have av:=h.old.size;obtain⟨i0,hi,ap,aq,au⟩:=info_parts jI;have ay:decide (6 < (D:Int))=false:=by simp;omega
 have h0:∀o,Rs W (w.alloc o) rb s k false:=fun o=>h.keep (S:=fun _=>False) ((Kp.refl _ _).alloc _) (by simp) (by simp)
 have HL:=ae hl;clear hl;go_enter func127,ntmps127;go_wp2_with fail
 have I0:=heap_alloc_new w (ar 91 0 [] (.slice none 0 0) (.slice none 0 0));refine (fN (h0 _) ⟨#[91]⟩ (by decide) t HL.o).mono ?_;rintro e w1 ⟨rfl,M,k1,U,r1⟩;have I1:w1.heap[w.heap.size]? =some (ar 91 0 [] (.slice none 0 0) (.slice none 0 0)):=(M.block _ (by simp) (by omega)).trans I0;replace M:=((Kp.refl (· =rb) w).alloc _).trans M;have R1:=ae r1;clear r1 I0 h0 HL;go_wp2_with fail
 refine (aV U).mono ?_;rintro e w2 ⟨rfl,K2,k2,h2,r2⟩;have I2:w2.heap[w.heap.size]? =some (ar 91 0 [] (.slice none 0 0) (.slice none 0 0)):=(K2.block _ (ag I1) (by omega)).trans I1;replace K2:=M.trans K2;have R2:Hid (ah s k2=sk t):=by rw[R1.o]at r2;exact r2
 clear r2 I1 M U R1;have h3:=h2.turn false (fun e=>h2.good rfl);have K3:Kp (· =rb) w (w2.setCell ⟨rb,2,none⟩ (.bool false)):=Kp.setCell (p:=⟨rb,2,none⟩) K2 (fun _=>rfl) _;have I3:(w2.setCell ⟨rb,2,none⟩ (.bool false)).heap[w.heap.size]? =some (ar 91 0 [] (.slice none 0 0) (.slice none 0 0)):=(af (by show w.heap.size≠rb;omega)).trans I2;obtain⟨c0,c1,c2,f1,f2,hb⟩:=h2.facts;obtain⟨d0,d1,d2,g1,g2,an⟩:=h3.facts;go_wp2_with fail
 refine (dP h3).mono ?_;rintro e w4 ⟨rfl,m,rfl⟩;rw[R2.o]
 have A3:ArI w.heap.size w.heap.size [] (.slice none 0 0) (fun _=>False) ((w2.setCell ⟨rb,2,none⟩ (.bool false)).drewN m):=
  ⟨I3,World.ownsRow_nil _ _ _ _,fun _ _ h=>(by cases h),fun _ h=>False.elim h,fun k hk=>(by simp[Value.ownBlock]at hk)⟩
 have A:w.heap.size≤w.heap.size:=Nat.le_refl _;by_cases E:nxt (sk t)=93
 ·obtain⟨q,hq⟩:=eI E (by decide)
  rw[E];have HQ:=ae hq;clear E hq c0 c1 c2 f1 f2 hb;go_wp2_with fail
  refine (fN (h3.drewN m) ⟨#[93]⟩ (by decide) q (by rw[R2.o];exact HQ.o)).mono ?_;rintro e F ⟨rfl,R,k5,h5,r5⟩;have J:=A3.kp R (fun k _ _=>by omega) A;have R5:=ae r5;clear r5;go_wp2;go_ret;refine gD (r:=q) ?_ ((K3.drewN m).trans R) h5 R5.o (J.tree A);rw[bD,if_pos (by rw[HQ.o];rfl),HQ.o];rfl
 ·have al:=u8n E
  simp only[UInt8.reduceToNat,Int.cast_ofNat_Int]at al
  have hT:bD (pEl (az true (6 - D))) 93 [] t=match pEl (az true (6 - D)) [] (sk t) with | some (b,r)=>bc (pEl (az true (6 - D))) 93 ((sk t).length+1) b r | none=>none:=by
   have ao:pEl (az true (6 - D)) [] (sk t)=pEl (az true (6 - D)) [] t:=by simp only[pEl,uI]
   have V:=pp (pv:=az true (6 - D)) (iv (6 - D));rw[bD,if_neg,←ao]
   ·cases hp:pEl (az true (6 - D)) [] (sk t) with
    |none=>rfl
    |some z=>
     obtain⟨b,r⟩:=z;have:=V _ _ _ _ hp;exact oG V _ _ _ _ (by omega) (by omega)
   ·intro e
    apply E
    cases hs:sk t with
    |nil=>rw[hs]at e;cases e
    |cons a l=>rw[hs]at e;simp at e;rw[e];rfl
  generalize hTT:bD (pEl (az true (6 - D))) 93 [] t=T at *;have HT:=ae (An hT hTT);have ab:=eZ s k2;rw[R2.o]at ab;clear hT hTT E c0 c1 c2 f1 f2 hb;have h4:=h3.drewN m;have K4:=K3.drewN m;clear h3 K3 I3 I2 d0 d1 d2 g1 g2 an h2 K2;go_wp2_with fail
  generalize (w2.setCell ⟨rb,2,none⟩ (.bool false)).drewN m=w4 at *
  go_loopg [] ((ah s k2).length+1) (fun g wr=>∃k' f,g=(if f then 0 else (ah s k').length+1)∧Rs W wr rb s k' f∧Kp (· =rb) w wr∧(f=true→T=none) ∧
    (f=false→∃x L G n,ArI w.heap.size w.heap.size x L G wr∧x.length+(ah s k').length≤600∧(ah s k').length < n∧T=match pEl (az true (6 - D)) (x.map (·.1)) (ah s k') with | some (b,r)=>bc (pEl (az true (6 - D))) 93 n b r | none=>none))
  case atStart=>exact⟨k2,false,rfl,h4,K4,fun e=>(by cases e),fun _=>⟨[],_,_,(sk t).length+1,A3,by rw[R2.o];simp;omega,by rw[R2.o];omega,by rw[R2.o];exact HT.o.1⟩⟩
  case round=>
   clear h4 K4 A3 al;obtain⟨k',f,hg,U,M,p1,K⟩:=hrel;obtain⟨c0,c1,c2,f1,f2,hb⟩:=U.facts
   cases f with
   |true=>
    have P:=ae (p1 rfl);clear p1 K;go_wp2_with fail
    refine (em U ⟨#[93]⟩).mono ?_;rintro e F ⟨rfl,R,h5⟩;go_wp2;go_ret;exact bI (by rw[HT.o.2,P.o];rfl) (M.trans R) h5
   |false=>
    obtain⟨x,L,G,n,A1,hx,hn,hC⟩:=K rfl;have C:=ae (An hg hC);clear p1 K hg hC;go_wp2_with fail
    refine (hv rb s k' wr U).mono ?_;rintro e F ⟨b,rfl,R,k5,y,h5,ho⟩;have J:=A1.kp R (fun k _ _=>by omega) A;have HO:=ae ho;clear ho;obtain⟨v0,v1,v2,v3,v4,z0,z1,z2,z3,z4,O⟩:=aw J.blk;have ai:=R.size;have ad:=M.size;go_wp2_with (at_builtin;refine wpList_append_own_at _ rfl _ _ 78 rfl w.heap.size 66 i0 (.pointer none) 1 8 underlying78 hi ap aq au rfl (by decide) _ _ _ rfl (J.row.alloc _) ⟨F.heap.size,0,none⟩ 1 1 [ptr b] rfl rfl ?c1 ?c2 ?c3 ?c4 ?c5 ?_)
    case c1=>exact cell_one_new _ _ _
    case c2=>intro u hu;simp at hu;subst hu;rfl
    case c3=>unfold maxLen;omega
    case c4=>omega
    case c5=>simp;omega
    intro v' Q y1 y2 _ y3;obtain⟨g',d,rfl⟩:=aK y1;have B1:Kp (fun k=>L.ownBlock=some k) F Q:=((Kp.refl _ _).alloc _).grown y2 (fun k hk _=>hk);have I6:Q.heap[w.heap.size]? =some (ar 91 0 [] (.slice none 0 0) L):=(B1.block _ O (fun e=>(J.own _ e).2 rfl)).trans J.blk;have aj:=ez y3;have S6:Rs W Q rb s k5 y:=h5.keep B1 (fun i hi=>by have:=(J.row.lt i hi).1;omega) (fun hi=>by have:=(J.row.lt rb hi).1;omega)
    have S7:Rs W (Q.setCell ⟨w.heap.size,4,none⟩ (.slice (some ⟨g',0,none⟩) (x.length+1) d)) rb s k5 y:=
     S6.keep (S:=fun k=>k=w.heap.size) (Kp.setCell (p:=⟨w.heap.size,4,none⟩) (Kp.refl (fun k=>k=w.heap.size) Q) (fun _=>rfl) _) (fun i hi=>by omega) (by omega)
    have K7:Kp (· =rb) w (Q.setCell ⟨w.heap.size,4,none⟩ (.slice (some ⟨g',0,none⟩) (x.length+1) d)):=
     Kp.setCell (p:=⟨w.heap.size,4,none⟩) ((M.trans R).and B1 (fun i hi e=>by have:=(J.row.lt i e).1;omega)) (fun hlt=>by exact absurd hlt (by show ¬w.heap.size < _;omega)) _
    have more:∀j,RR F (fun c=>wr.heap.size≤c∧c < F.heap.size) j b→ArI w.heap.size w.heap.size (x ++[(j,b)]) (.slice (some ⟨g',0,none⟩) (x.length+1) d) (fun k=>G k∨(wr.heap.size≤k∧k < F.heap.size)) (Q.setCell ⟨w.heap.size,4,none⟩ (.slice (some ⟨g',0,none⟩) (x.length+1) d)):=
     fun j ht=>J.more (fun k hk=>(A1.old k hk).2.1) (ag A1.blk) ad (fun k hk=>(A1.row.lt k hk).2) ht B1 I6 y1 aj ai
    have tn:y=true→T=none:=by
     intro e;rw[C.o.2]
     cases hp:az true (6 - D) (ah s k') with
     |none=>simp[pEl,hp]
     |some z=>
      have:=HO.o;rw[hp]at this;rw[e]at this;cases this.1
    have ts:y=false→∃j r,ah s k5=sk r∧RR F (fun c=>wr.heap.size≤c∧c < F.heap.size) j b∧r.length≤(ah s k').length∧T=bc (pEl (az true (6 - D))) 93 n (x.map (·.1) ++[j]) r:=by
     intro e
     cases hp:az true (6 - D) (ah s k') with
     |none=>
      have:=HO.o;rw[hp,e]at this;cases this
     |some z=>
      obtain⟨j,r⟩:=z;have:=HO.o;rw[hp]at this;refine⟨j,r,this.2.1,this.2.2,iv _ _ _ _ hp, ?_⟩;rw[C.o.2];simp[pEl,hp]
    have Z:=ae (An more (An tn ts));clear more tn ts aj B1 y1 y2 y3 v0 v1 v2 v3 v4 z0 z1 z2 z3 z4 O c0 c1 c2 f1 f2 hb S6;obtain⟨v0,v1,v2,v3,v4,z0,z1,z2,z3,z4,O⟩:=aw I6;go_wp2_with fail
    clear v0 v1 v2 v3 v4 z0 z1 z2 z3 z4 O;refine (dP S7).mono ?_;rintro e w8 ⟨rfl,m8,rfl⟩;have S8:=S7.drewN m8;have K8:=K7.drewN m8
    have I:∀j,RR F (fun c=>wr.heap.size≤c∧c < F.heap.size) j b→ArI w.heap.size w.heap.size (x ++[(j,b)]) (.slice (some ⟨g',0,none⟩) (x.length+1) d) (fun k=>G k∨(wr.heap.size≤k∧k < F.heap.size)) ((Q.setCell ⟨w.heap.size,4,none⟩ (.slice (some ⟨g',0,none⟩) (x.length+1) d)).drewN m8):=
     fun j ht=>(Z.o.1 j ht).kp ((Kp.refl (fun _=>False) _).drewN m8) (by simp) A
    have Y:=ae (An I Z.o.2);clear I Z S7 K7 I6;generalize ((Q.setCell ⟨w.heap.size,4,none⟩ (.slice (some ⟨g',0,none⟩) (x.length+1) d)).drewN m8)=w8 at *;by_cases B:nxt (ah s k5)=44
    ·obtain⟨q,hq⟩:=eI B (by decide)
     rw[B];have HQ:=ae hq;clear B hq;go_wp2_with fail
     refine (dn S8 ⟨#[44]⟩ (by decide)).mono ?_;rintro e w9 ⟨rfl,X,k9,H,h9,_,hw⟩;have HW:=ae hw;clear hw;go_wp2
     cases H with
     |true=>
      go_roundg 0
      case measure=>rw[C.o.1];simp
      case rel=>
       refine⟨k9,true,rfl,h9,K8.trans X,fun _=> ?_,fun e=>(by cases e)⟩;rcases HW.o with⟨_,b2,_⟩ | ⟨_,_,v⟩
       ·cases b2
       ·rcases v with v | v
        ·exact Y.o.2.1 v
        ·exact absurd HQ.o (v q)
     |false=>
      rcases HW.o with⟨b1,_,r',p1,K⟩ | ⟨v,_⟩
      ·obtain⟨j,r,t1,t2,t3,t4⟩:=Y.o.2.2 b1
       have N:sk r=44 :: r':=by rw[←t1];exact p1
       have ac:=cN r;rw[N]at ac;simp only[List.length_cons]at ac;go_roundg ((ah s k9).length+1)
       case measure=>rw[C.o.1,K];simp;omega
       case rel=>
        refine⟨k9,false,by simp,h9,K8.trans X,fun e=>(by cases e),fun _=>⟨x ++[(j,b)],_,_,n - 1,(Y.o.1 j t2).kp X (fun k _ _=>by omega) A, ?_, ?_, ?_⟩⟩
        ·rw[K,List.length_append];simp;omega
        ·rw[K];omega
        ·obtain⟨n',rfl⟩:∃n',n=n'+1:=⟨n - 1,by omega⟩
         rw[t4,K,bc,N];simp;cases pEl (az true (6 - D)) (x.map (·.1) ++[j]) r' <;> rfl
      ·cases v
    ·have ak:=u8n B
     simp only[UInt8.reduceToNat,Int.cast_ofNat_Int]at ak;have ax:(((nxt (ah s k5)).toNat:Int) != 44)=true:=by simp only[bne,ak];rfl
     have am:=ae B;clear B;go_wp2_with fail
     refine (dn S8 ⟨#[93]⟩ (by decide)).mono ?_;rintro e w9 ⟨rfl,X,k9,H,h9,_,hw⟩;have HW:=ae hw;clear hw;go_wp2;go_ret
     cases H with
     |true=>
      refine bI ?_ (K8.trans X) h9;rw[HT.o.2];rcases HW.o with⟨_,b2,_⟩ | ⟨_,_,v⟩
      ·cases b2
      ·cases hb5:y with
       |true=>rw[Y.o.2.1 hb5];rfl
       |false=>
        rcases v with v | v
        ·rw[hb5]at v;cases v
        ·obtain⟨j,r,t1,t2,t3,t4⟩:=Y.o.2.2 hb5
         obtain⟨n',rfl⟩:∃n',n=n'+1:=⟨n - 1,by omega⟩;rw[t4,bc];have aa:=am.o;rw[t1]at aa v
         cases hs:sk r with
         |nil=>rfl
         |cons a l=>
          rw[hs]at aa v;have U:a≠44:=aa;have h2:a≠93:=by rintro rfl;exact v l rfl
          simp[U,h2]
     |false=>
      rcases HW.o with⟨b1,_,r',p1,K⟩ | ⟨v,_⟩
      ·obtain⟨j,r,t1,t2,t3,t4⟩:=Y.o.2.2 b1
       have N:sk r=93 :: r':=by rw[←t1];exact p1
       obtain⟨n',rfl⟩:∃n',n=n'+1:=⟨n - 1,by omega⟩;have tr:=((Y.o.1 j t2).kp X (fun k _ _=>by omega) A).tree A;refine gD ?_ (K8.trans X) h9 K tr;rw[HT.o.2,t4,bc,N];simp
      ·cases v
end
end Go.Proofs.YtocligpfmfmihaaGreatDoor
