import Derived.Test.YtocligpfmfmihaaGreatDoorRef4G
import Derived.Test.YtocligpfmfmihaaGreatDoorParG
import Derived.Lib.AppendStr
import Derived.Lib.ConvBytes
import Derived.Lib.OthersKept
set_option maxHeartbeats 2000000
set_option maxRecDepth 100000
namespace Go.Proofs.YtocligpfmfmihaaGreatDoor
open Go.Proofs.Tryz
section
open Go Go.RowKit Go.Maps
variable{W w w':World}{rb k:Nat}{s:ByteArray}{bad:Bool}
theorem aE{w:World}{B:Nat}{e:TypeId}{v:Value}{n:Nat}{xs:List Value}(h:w.ownsRow B e 1 v n xs):∃a c,v=.slice a n c:=by
 obtain⟨_,⟨rfl,rfl⟩ | ⟨g,b,d,rfl,_⟩⟩:=h
 ·exact⟨_,_,rfl⟩
 ·exact⟨_,_,rfl⟩
theorem aL{w:World}{B:Nat}{e:TypeId}{g n c:Nat}{xs:List Value}(h:w.ownsRow B e 1 (.slice (some ⟨g,0,none⟩) n c) n xs)(i:Nat)(u:Value)(hu:xs[i]? =some u):w.cell? ⟨g,i,none⟩=some u:=by
 have:=h.cells (g:=g) rfl i u hu;rw[Addr.add_lit]at this;simpa using this
theorem vm{α:Type}(key:Bs)(m:List (Bs×α))(n:Nat)(p:Bs×α)(h:m[n]? =some p):ai key (m.drop n)=if p.1=key then some p.2 else ai key (m.drop (n+1)):=by
 obtain⟨b,c⟩:=List.getElem?_eq_some_iff.1 h;rw[List.drop_eq_getElem_cons b,c];obtain⟨a,x⟩:=p;rfl
theorem vf{vb B C:Nat}{K L:Value}{n0:Int}{t0:Bs}(m:List (Bs×Nat))(h:w.heap[vb]? =some (ar 123 n0 t0 K L))(hK:w.ownsRow B 9 1 K m.length (m.map fun p=>.string ⟨p.1.toArray⟩))
  (hL:w.ownsRow C 66 1 L m.length (m.map fun p=>ptr p.2)) (hm:m.length≤700) (key:Bs) :
  Calls prog 45 #[.pointer (some ⟨vb,0,none⟩),.string ⟨key.toArray⟩] w fun e w'=>e=.returned (.pointer ((ai key m).map fun b=>⟨b,0,none⟩))∧w'=w:=by
 obtain⟨v0,E,v2,v3,v4,z0,F,z2,z3,z4,y⟩:=aw h
 cases m with
 |nil=>
  obtain⟨a,c,rfl⟩:=aE hK;go_enter func45,ntmps45;go_wp2_with fail
  go_loopg [5] 1 (fun g a wr=>a=.int .i64 0∧wr=w∧g=1)
  case atStart=>exact⟨rfl,rfl,rfl⟩
  case round=>
   obtain⟨rfl,rfl,rfl⟩:=hrel;go_wp2;go_ret;exact⟨rfl,rfl⟩
 |cons p0 m0=>
  obtain⟨g,x,rfl⟩:=aK (n:=m0.length) (by simpa using hK);obtain⟨A,s,rfl⟩:=aK (n:=m0.length) (by simpa using hL);generalize hmm:p0 :: m0=m at *;have i:m0.length+1=m.length:=by rw[←hmm];rfl
  rw[i]at v3 v4 hK hL;clear hmm i;have u:=ae (aL hK);have v:=ae (aL hL);clear hK hL h;go_enter func45,ntmps45;go_wp2_with fail
  go_loopg [5] (m.length) (fun gg a wr=>∃n:Nat,gg=m.length - n∧n≤m.length∧a=.int .i64 (n:Int)∧wr=w∧ai key (m.drop n)=ai key m)
  case atStart=>exact⟨0,rfl,by omega,rfl,rfl,rfl⟩
  case round=>
   obtain⟨n,t,D,rfl,rfl,f⟩:=hrel;have H:=ae (An t f);clear t f;by_cases l:n < m.length
   ·obtain⟨p,hp⟩:∃p,m[n]? =some p:=⟨m[n],List.getElem?_eq_getElem l⟩
    have z:=u.o n (.string ⟨p.1.toArray⟩) (by rw[List.getElem?_map,hp];rfl);have cl:=v.o n (ptr p.2) (by rw[List.getElem?_map,hp];rfl);have d:=vm key m n p hp;have j:(n:Int) < (m.length:Int):=by omega
    have r:=ae d;clear hp d;by_cases k:p.1=key
    ·have q:(p.1 == key)=true:=by simpa using k
     go_wp2;go_ret;refine⟨?_,rfl⟩;rw[←H.o.2,r.o,if_pos k];rfl
    ·have q:(p.1 == key)=false:=by simpa using k
     go_wp2;go_roundg (m.length - (n+1))
     case measure=>rw[H.o.1];omega
     case rel=>exact⟨n+1,rfl,by omega,ak (by omega),rfl,by rw[←H.o.2,r.o,if_neg k]⟩
   ·have j:¬(n:Int) < (m.length:Int):=by omega
    go_wp2;go_ret;refine⟨?_,rfl⟩;rw[←H.o.2,List.drop_of_length_le (by omega)];rfl
end
section
open Go Go.RowKit Go.Maps Go.WideMaps
structure Wr(B:Nat)(w w':World):Prop where
 below:Below B w w'
 oth:Lib.OthersKept 5 none w w'
variable{B:Nat}{a w w':World}
theorem Wr.refl(B:Nat)(w:World):Wr B w w:=⟨Below.refl _ _,Lib.OthersKept.refl _ _ _⟩
theorem Wr.trans{b c:World}(h:Wr B a b)(k:Wr B b c):Wr B a c:=⟨h.below.trans k.below,fun i o h1 h2 h3=>k.oth i o (h.oth i o h1 h2 h3) h2 h3⟩
theorem Wr.mono{C:Nat}(h:Wr B a w)(hC:C≤B):Wr C a w:=⟨h.below.mono hC,h.oth⟩
theorem Wr.alloc(h:Wr B a w)(hB:B≤w.heap.size)(o:Obj):Wr B a (w.alloc o):=
 h.trans ⟨(Below.refl _ _).alloc hB o,fun i x h1 _ _=>by rw[Below.heap_alloc _ _ _ (ag h1)];exact h1⟩
theorem Wr.drewN(h:Wr B a w)(n:Nat):Wr B a (w.drewN n):=⟨below_drewN h.below n,h.oth⟩
theorem Wr.grown{v:Value}{n:Nat}{xs:List Value}(h:Wr B a w)(ho:w.ownsRow B 5 1 v n xs)(hg:w.grownBy w' v.ownBlock)(hB:B≤w.heap.size):Wr B a w':=by
 refine h.trans ⟨(Below.refl _ _).grown hg hB (fun k hk=>(ho.lt k hk).1),fun i o h1 _ h3=> ?_⟩;rw[hg.block i (ag h1) ?_]
 ·exact h1
 ·intro e
  obtain⟨_,⟨rfl,_⟩ | ⟨g,c,d,rfl,_,b,_⟩⟩:=ho
  ·cases e
  ·injection e with e
   subst e;rw[h1]at b;injection b with b
   exact h3 _ _ b
def Row(B:Nat)(w:World)(v:Value)(o:List UInt8):Prop:=w.ownsRow B 5 1 v o.length (Lib.byteCells o)
theorem Row.old{v:Value}{o:List UInt8}(h:Row B w v o)(hW:∀k,v.ownBlock=some k→w'.heap[k]? =w.heap[k]?):Row B w' v o:=ap h hW
mutual
theorem Rep.oth{w w':World}{F:Nat→Prop}(h:Lib.OthersKept 5 none w w'):∀(j:J) {v:Value},Rep w F j v→Rep w' F j v
 |.null,_,hj=>by rw[Rep]at hj ⊢;exact hj
 |.bool _,_,hj=>by rw[Rep]at hj ⊢;exact hj
 |.num _,_,hj=>by rw[Rep]at hj ⊢;exact hj
 |.str _,_,hj=>by rw[Rep]at hj ⊢;exact hj
 |.arr l,_,hj=>by
  rw[Rep]at hj ⊢;obtain⟨sv,y,e,⟨k,n⟩,x,i⟩:=hj;refine⟨sv,y,e,⟨k, ?_⟩,x,Reps.oth h l i⟩;rcases n with q | ⟨g,d,f,o,p,r,s⟩
  ·exact Or.inl q
  ·exact Or.inr ⟨g,d,f,o,p,h g _ r (by simp) (by intro c fz;simp),s⟩
 |.obj l,_,hj=>by
  rw[Rep]at hj ⊢;obtain⟨b,m,e,u,⟨t,a,k,n⟩,i⟩:=hj;exact⟨b,m,e,u,⟨t,a,h b _ k (by simp) (by intro c fz;simp),n⟩,Repm.oth h l i⟩
theorem Reps.oth{w w':World}{F:Nat→Prop}(h:Lib.OthersKept 5 none w w'):∀(l:List J) {vs:List Value},Reps w F l vs→Reps w' F l vs
 | [],_,hj=>by rw[Reps]at hj ⊢;exact hj
 |x :: l,_,hj=>by
  rw[Reps]at hj ⊢;obtain⟨v,r,e,a,b⟩:=hj;exact⟨v,r,e,Rep.oth h x a,Reps.oth h l b⟩
theorem Repm.oth{w w':World}{F:Nat→Prop}(h:Lib.OthersKept 5 none w w'):∀(l:List (Bs×J)) {m:List (Bs×Value)},Repm w F l m→Repm w' F l m
 | [],_,hj=>by rw[Repm]at hj ⊢;exact hj
 | (k,x) :: l,_,hj=>by
  rw[Repm]at hj ⊢;obtain⟨v,r,e,a,b⟩:=hj;exact⟨v,r,e,Rep.oth h x a,Repm.oth h l b⟩
end
def WrR(B:Nat)(w:World)(o:List UInt8)(e:Ending)(w':World):Prop:=∃v',e=.returned v'∧Row B w' v' o∧Wr B w w'
theorem tG(s:ByteArray):Lib.strCells s=Lib.byteCells s.data.toList:=by simp[Lib.strCells,Lib.byteCells]
theorem fO{v v':Value}{o:List UInt8}{s:ByteArray}{w1:World}(h:Wr B w w1)(hB:B≤w1.heap.size)(hr:Row B w1 v o)(y1:w'.ownsRow B 5 1 v' (o.length+s.size) (Lib.byteCells o ++Lib.strCells s))(y2:w1.grownBy w' v.ownBlock):
  Row B w' v' (o ++s.data.toList)∧Wr B w w':=by
 refine⟨?_,h.grown hr y2 hB⟩;unfold Row;rw[dW,List.length_append,←tG];have:s.data.toList.length=s.size:=by rw[Array.length_toList];rfl
 rw[this];exact y1
theorem cZ{v v':Value}{o l:List UInt8}{w1:World}{ob:Obj}(h:Wr B w w1)(hB:B≤w1.heap.size)(hr:Row B w1 v o)(y1:w'.ownsRow B 5 1 v' (o.length+l.length) (Lib.byteCells o ++Lib.byteCells l))(y2:(w1.alloc ob).grownBy w' v.ownBlock):
  Row B w' v' (o ++l)∧Wr B w w':=by
 refine⟨?_,(h.alloc hB ob).grown (World.ownsRow.alloc hr ob) y2 (by simp;omega)⟩;unfold Row;rw[dW,List.length_append];exact y1
theorem qI(B:Nat)(w:World)(v:Value)(o:List UInt8)(b:Bool)(hr:Row B w v o)(hB:B≤w.heap.size)(ho:o.length≤140000000000000):
  Calls prog 118 #[v,.bool b] w fun e w'=>WrR B w (o ++cJ (.bool b)) e w':=by
 obtain⟨i0,g,a,c,d⟩:=info_parts j0;cases b
 ·go_enter func118,ntmps118
  go_wp2_with (first | (at_builtin;refine Lib.wpList_append_own_string _ rfl _ _ 124 9 rfl B 5 i0 underlying124 underlying9 g a c d _ _ _ rfl hr ⟨#[102,97,108,115,101]⟩ rfl (by unfold maxLen;show o.length+5≤_;omega) (by show o.length+5≤_;omega) hB ?_;intro v' w1 y1 y2 _) | go_in)
  go_ret;obtain⟨f,z2⟩:=fO (Wr.refl B w) hB hr y1 y2;exact⟨_,rfl,f,z2⟩
 ·go_enter func118,ntmps118
  go_wp2_with (first | (at_builtin;refine Lib.wpList_append_own_string _ rfl _ _ 124 9 rfl B 5 i0 underlying124 underlying9 g a c d _ _ _ rfl hr ⟨#[116,114,117,101]⟩ rfl (by unfold maxLen;show o.length+4≤_;omega) (by show o.length+4≤_;omega) hB ?_;intro v' w1 y1 y2 _) | go_in)
  go_ret;obtain⟨f,z2⟩:=fO (Wr.refl B w) hB hr y1 y2;exact⟨_,rfl,f,z2⟩
theorem wg{c:UInt8}(h:c.toNat < 32)(h8:c≠8)(h12:c≠12)(h10:c≠10)(h13:c≠13)(h9:c≠9):cB c=[92,117,48,48,gW (c.toNat / 16),gW (c.toNat % 16)]:=by
 unfold cB;have b:¬(c=34∨c=92):=by rintro (rfl | rfl) <;> simp at h
 have a:c < 32:=by rw[UInt8.lt_iff_toNat_lt];exact h
 rw[if_neg b,if_neg h8,if_neg h12,if_neg h10,if_neg h13,if_neg h9,if_pos a]
theorem uj(k:Nat)(hk:k < 16)(w:World):(Instr.index 9 (.string ⟨#[48,49,50,51,52,53,54,55,56,57,97,98,99,100,101,102]⟩) (.int .u8 (k:Int))).run prog w=.ok (.int .u8 (gW k).toNat) w:=by
 have:k=0∨k=1∨k=2∨k=3∨k=4∨k=5∨k=6∨k=7∨k=8∨k=9∨k=10∨k=11∨k=12∨k=13∨k=14∨k=15:=by omega
 rcases this with rfl | rfl | rfl | rfl | rfl | rfl | rfl | rfl | rfl | rfl | rfl | rfl | rfl | rfl | rfl | rfl <;> rfl
theorem dC(w:World)(l:List Value)(t:TypeId):∀(j:Nat) (u:Value),l[j]? =some u→(w.alloc (.cells l.toArray t)).cell? ((⟨w.heap.size,0,none⟩:Addr).add j)=some u:=by
 intro j u h
 have a:(⟨w.heap.size,0,none⟩:Addr).add j=⟨w.heap.size,j,none⟩:=by
  unfold Addr.add;by_cases b:j=0 <;> simp[b]
 rw[a];have:=heap_alloc_new w (.cells l.toArray t);simp only[World.cell?,this];simpa using h
theorem bV(l:List UInt8):∀u ∈ Lib.byteCells l,u.oneCell'=true:=by
 intro u a;obtain⟨x,_,rfl⟩:=List.mem_map.1 a;rfl
theorem DU:∀k:Nat,k < 32→bits BinOp.and IntKind.u8 (k:Int) 15=((k % 16:Nat):Int):=by decide
theorem nD(B:Nat)(w:World)(v:Value)(o:List UInt8)(c:UInt8)(hc:c.toNat < 32)(hr:Row B w v o)(hB:B≤w.heap.size)(ho:o.length≤140000000000000):
  Calls prog 169 #[v,.int .u8 c.toNat] w fun e w'=>WrR B w (o ++cB c) e w'∧Kp (fun k=>v.ownBlock=some k) w w':=by
 obtain⟨i0,j,a,b,d⟩:=info_parts j0;by_cases n:c=8
 ·subst n
  go_enter func169,ntmps169;go_wp2_with (at_builtin;refine Lib.wpList_append_own_string _ rfl _ _ 124 9 rfl B 5 i0 underlying124 underlying9 j a b d _ _ _ rfl hr ⟨#[92,98]⟩ rfl (by unfold maxLen;show o.length+2≤_;omega) (by show o.length+2≤_;omega) hB ?_;intro v' w1 y1 y2 _)
  go_ret;obtain⟨f,z2⟩:=fO (Wr.refl B w) hB hr y1 y2;exact⟨⟨_,rfl,f,z2⟩,(Kp.refl _ _).grown y2 (fun k hk _=>hk)⟩
 by_cases h:c=12
 ·subst h
  go_enter func169,ntmps169;go_wp2_with (at_builtin;refine Lib.wpList_append_own_string _ rfl _ _ 124 9 rfl B 5 i0 underlying124 underlying9 j a b d _ _ _ rfl hr ⟨#[92,102]⟩ rfl (by unfold maxLen;show o.length+2≤_;omega) (by show o.length+2≤_;omega) hB ?_;intro v' w1 y1 y2 _)
  go_ret;obtain⟨f,z2⟩:=fO (Wr.refl B w) hB hr y1 y2;exact⟨⟨_,rfl,f,z2⟩,(Kp.refl _ _).grown y2 (fun k hk _=>hk)⟩
 by_cases g:c=10
 ·subst g
  go_enter func169,ntmps169;go_wp2_with (at_builtin;refine Lib.wpList_append_own_string _ rfl _ _ 124 9 rfl B 5 i0 underlying124 underlying9 j a b d _ _ _ rfl hr ⟨#[92,110]⟩ rfl (by unfold maxLen;show o.length+2≤_;omega) (by show o.length+2≤_;omega) hB ?_;intro v' w1 y1 y2 _)
  go_ret;obtain⟨f,z2⟩:=fO (Wr.refl B w) hB hr y1 y2;exact⟨⟨_,rfl,f,z2⟩,(Kp.refl _ _).grown y2 (fun k hk _=>hk)⟩
 by_cases i:c=13
 ·subst i
  go_enter func169,ntmps169;go_wp2_with (at_builtin;refine Lib.wpList_append_own_string _ rfl _ _ 124 9 rfl B 5 i0 underlying124 underlying9 j a b d _ _ _ rfl hr ⟨#[92,114]⟩ rfl (by unfold maxLen;show o.length+2≤_;omega) (by show o.length+2≤_;omega) hB ?_;intro v' w1 y1 y2 _)
  go_ret;obtain⟨f,z2⟩:=fO (Wr.refl B w) hB hr y1 y2;exact⟨⟨_,rfl,f,z2⟩,(Kp.refl _ _).grown y2 (fun k hk _=>hk)⟩
 by_cases p:c=9
 ·subst p
  go_enter func169,ntmps169;go_wp2_with (at_builtin;refine Lib.wpList_append_own_string _ rfl _ _ 124 9 rfl B 5 i0 underlying124 underlying9 j a b d _ _ _ rfl hr ⟨#[92,116]⟩ rfl (by unfold maxLen;show o.length+2≤_;omega) (by show o.length+2≤_;omega) hB ?_;intro v' w1 y1 y2 _)
  go_ret;obtain⟨f,z2⟩:=fO (Wr.refl B w) hB hr y1 y2;exact⟨⟨_,rfl,f,z2⟩,(Kp.refl _ _).grown y2 (fun k hk _=>hk)⟩
 have z:((c.toNat:Int) == 8)=false:=u8n n;have u:((c.toNat:Int) == 12)=false:=u8n h;have t:((c.toNat:Int) == 10)=false:=u8n g;have x:((c.toNat:Int) == 13)=false:=u8n i;have A:((c.toNat:Int) == 9)=false:=u8n p;have hcb:=ae (wg hc n h g i p);clear n h g i p;have r:∀w,(Instr.index 9 (.string ⟨#[48,49,50,51,52,53,54,55,56,57,97,98,99,100,101,102]⟩) (.int .u8 ((c.toNat:Int) / 16))).run prog w=.ok (.int .u8 (gW (c.toNat / 16)).toNat) w:=fun w=>uj (c.toNat / 16) (by omega) w
 have s:∀w,(Instr.index 9 (.string ⟨#[48,49,50,51,52,53,54,55,56,57,97,98,99,100,101,102]⟩) (.int .u8 (bits BinOp.and IntKind.u8 (c.toNat:Int) 15))).run prog w=.ok (.int .u8 (gW (c.toNat % 16)).toNat) w:=fun w=>by rw[DU c.toNat hc];exact uj (c.toNat % 16) (by omega) w
 have m:Row B w.drew v o:=hr;generalize hd1:gW (c.toNat / 16)=d1 at *;generalize hd2:gW (c.toNat % 16)=d2 at *;have y:=ae (An hd1 hd2);clear hd1 hd2;go_enter func169,ntmps169;go_wp2_with fail
 go_region_law (refine dp rfl (.tmp 26) (.tmp 33) 124 rfl B 5 i0 (.int .u8 0) 1 1 underlying124 j a b d rfl (by decide) v o.length (Lib.byteCells o) (by simp[Act.eval]) (World.ownsRow.alloc m _) ⟨w.heap.size,0,none⟩ 6 6 (Lib.byteCells [92,117,48,48,d1,d2]) (by simp[Act.eval]) rfl (by exact dC w.drew _ _) (bV _) (by unfold maxLen;omega) (by omega) (by simp;omega) ?_;intro v' w3 y1 y2 _)
 all_goals
  obtain⟨f,z2⟩:=cZ (l:=[92,117,48,48,d1,d2]) (w1:=w.drew) (w:=w) ⟨(Below.refl _ _).drew,Lib.OthersKept.refl _ _ _⟩ hB m y1 y2;have q:Kp (fun k=>v.ownBlock=some k) w w3:=(((Kp.refl _ w).drew).alloc _).grown y2 (fun k hk _=>hk);have Z:=ae (An f z2);clear f z2 y1 y2;go_wp2;go_ret;refine⟨⟨_,rfl, ?_,Z.o.2⟩,q⟩;rw[hcb.o];exact Z.o.1
end
section
open Go Go.RowKit Go.Maps Go.WideMaps
theorem wh(l:List UInt8)(c:UInt8):(l ++[c]).flatMap cB=l.flatMap cB ++cB c:=by simp
theorem vO(s:ByteArray)(k:Nat)(h:k < s.size):s.data.toList.take (k+1)=s.data.toList.take k ++[s[k]]:=by rw[List.take_succ_eq_append_getElem (by simpa using h)];rfl
theorem C9(c:UInt8):(cB c).length≤6:=by
 unfold cB
 repeat' split
 all_goals simp
theorem uh(l:List UInt8):l.length≤(l.flatMap cB).length:=by
 induction l with
 |nil=>simp
 |cons c l ih=>
  have:1≤(cB c).length:=by
   unfold cB
   repeat' split
   all_goals simp
  rw[List.flatMap_cons,List.length_append,List.length_cons];omega
theorem wO(l:List UInt8)(k:Nat):((l.take k).flatMap cB).length≤(l.flatMap cB).length:=by
 conv=>rhs;rw[←List.take_append_drop k l,List.flatMap_append,List.length_append]
 omega
theorem we{B:Nat}{a w:World}{s:ByteArray}(h:Wr B a w)(hB:B≤w.heap.size):Wr B a (Lib.bytesWorld w 5 s):=by
 refine h.trans ⟨⟨?_, ?_, ?_, ?_,fun k hk=>Lib.bytesWorld_at_old w _ s k (by omega)⟩,fun i o h1 _ _=>by rw[Lib.bytesWorld_at_old w _ s i (ag h1)];exact h1⟩
 ·unfold Lib.bytesWorld World.freeze;rw[if_neg (by decide)];rfl
 ·unfold Lib.bytesWorld World.freeze;rw[if_neg (by decide)];rfl
 ·unfold Lib.bytesWorld World.freeze;rw[if_neg (by decide)];rfl
 ·rw[Lib.bytesWorld_size];omega
theorem DI{B bb:Nat}{w w1:World}{v:Value}{o:List UInt8}{s:ByteArray}(hr:Row B w v o)(h:w.heap[bb]? =(Lib.bytesWorld w1 5 s).heap[w1.heap.size]?):v.ownBlock≠some bb:=by
 intro e;obtain⟨_,⟨rfl,_⟩ | ⟨g,b,c,rfl,_,a,_⟩⟩:=hr
 ·cases e
 ·injection e with e
  subst e;rw[h,Lib.bytesWorld_at_new]at a;injection a with a
  injection a with _ _ a
  injection a with d f
  omega
theorem gh(B:Nat)(w:World)(v:Value)(o:List UInt8)(s:ByteArray)(hr:Row B w v o)(hB:B≤w.heap.size)(ho:o.length+(cU s.data.toList).length≤139000000000000):
  Calls prog 120 #[v,.string s] w fun e w'=>WrR B w (o ++cU s.data.toList) e w':=by
 obtain⟨i0,G,u,x,y⟩:=info_parts j0
 have ab:s.size≤139000000000000:=by
  have O:=uh s.data.toList;have h2:s.data.toList.length=s.size:=by rw[Array.length_toList];rfl
  rw[cU,List.length_cons,List.length_append]at ho;omega
 have aa:=fun w1:World=>Lib.run_convert_string_bytes (P:=prog) w1 9 124 5 s underlying9 underlying124 underlying5
 go_enter func120,ntmps120;go_wp2_with (at_builtin;refine wpList_append_own _ rfl (.tmp 7) (.tmp 8) 124 rfl B 5 i0 (.int .u8 0) 1 1 underlying124 G u x y rfl (by decide) _ _ _ rfl (World.ownsRow.alloc hr _) ⟨w.heap.size,0,none⟩ 1 1 (Lib.byteCells [34]) rfl rfl (by exact dC w _ _) (bV _) (by unfold maxLen;omega) (by omega) (by simp;omega) ?_;intro v1 w1 j f _)
 obtain⟨K,z2⟩:=cZ (l:=[34]) (Wr.refl B w) hB hr j f;have R:B≤w1.heap.size:=Nat.le_trans hB z2.below.size;clear j f;go_wp2_with fail
 go_loopg [0,13] s.size (fun g a i wr=>∃k:Nat,g=s.size - k∧k≤s.size∧i=.int .i64 (k:Int)∧Row B wr a (o ++34 :: (s.data.toList.take k).flatMap cB)∧Wr B w wr∧wr.heap[w1.heap.size]? =(Lib.bytesWorld w1 5 s).heap[w1.heap.size]?)
 case atStart=>
  refine⟨0,rfl,by omega,rfl, ?_,we z2 R,rfl⟩;simp only[List.take_zero,List.flatMap_nil];exact K.old (fun k F=>Lib.bytesWorld_at_old w1 _ s k (K.lt k F).2)
 case round=>
  obtain⟨k,Y,F,rfl,b,n,r⟩:=hrel
  have Z:(o ++34 :: (s.data.toList.take k).flatMap cB).length+1≤o.length+(cU s.data.toList).length:=by
   have O:=wO s.data.toList k;rw[List.length_append,List.length_cons,cU,List.length_cons,List.length_append,List.length_singleton];omega
  generalize ho1:o ++34 :: (s.data.toList.take k).flatMap cB=o1 at *;have A:=ae (An Y (An ho1 r));have q:B≤wr.heap.size:=Nat.le_trans hB n.below.size
  have I:w1.heap.size < wr.heap.size:=by
   have:=r;rw[Lib.bytesWorld_at_new]at this;exact ag this
  clear Y ho1 K z2;by_cases E:k < s.size
  ·have T:wr.cell? ⟨w1.heap.size,k,none⟩=some (.int .u8 (s[k].toNat:Int)):=by
    have O:wr.cell? ⟨w1.heap.size,k,none⟩=(Lib.bytesWorld w1 5 s).cell? ⟨w1.heap.size,k,none⟩:=World.cell?_of_block (a:=⟨w1.heap.size,k,none⟩) r;rw[O,Lib.bytesWorld_cell w1 _ s k E];simp[List.getD,E];rfl
   clear r;have t:o1 ++cB s[k]=o ++34 :: (s.data.toList.take (k+1)).flatMap cB:=by rw[vO s k E,wh,←A.o.2.1];simp
   generalize s[k]=c at *;have N:=ae t;have S:c.toNat < 256:=c.toNat_lt;have H:decide ((k:Int) < (s.size:Int))=true:=by simp;omega
   have D:∀w2,Kp (fun k=>u0.ownBlock=some k) wr w2→w2.heap[w1.heap.size]? =(Lib.bytesWorld w1 5 s).heap[w1.heap.size]? :=fun w2 hk2=>
    (hk2.block _ I (DI b A.o.2.2)).trans A.o.2.2
   have M:=ae D;clear t D;by_cases C:c=34∨c=92
   ·have hcb:cB c=[92,c]:=by unfold cB;rw[if_pos C]
    have L:=ae hcb;clear hcb
    have z:∀v2 w2,w2.ownsRow B 5 1 v2 (o1.length+2) (Lib.byteCells o1 ++Lib.byteCells [92,c])→(wr.alloc (.cells #[.int .u8 92,.int .u8 c.toNat] 5)).grownBy w2 u0.ownBlock→Row B w2 v2 (o ++34 :: (s.data.toList.take (k+1)).flatMap cB)∧Wr B w w2∧w2.heap[w1.heap.size]? =(Lib.bytesWorld w1 5 s).heap[w1.heap.size]? :=by
     intro v2 w2 j f;obtain⟨K,z2⟩:=cZ (l:=[92,c]) n q b j f;refine⟨?_,z2,M.o w2 (((Kp.refl _ _).alloc _).grown f (fun k F _=>F))⟩;rw[←N.o,L.o];exact K
    have V:=ae z;clear z;by_cases p:c=34
    ·have ad:((c.toNat:Int) == 34)=true:=by subst p;rfl
     clear p C;go_wp2_with (at_builtin;refine wpList_append_own _ rfl (.tmp 28) (.tmp 30) 124 rfl B 5 i0 (.int .u8 0) 1 1 underlying124 G u x y rfl (by decide) _ _ _ rfl (World.ownsRow.alloc b _) ⟨wr.heap.size,0,none⟩ 2 2 (Lib.byteCells [92,c]) rfl rfl (by exact dC wr _ _) (bV _) (by unfold maxLen;omega) (by omega) (by simp;omega) ?_;intro v2 w2 j f _)
     have m:=ae (V.o v2 w2 j f);clear j f;go_wp2;go_roundg (s.size - (k+1))
     case measure=>rw[A.o.1];omega
     case rel=>exact⟨k+1,rfl,by omega,ak (by omega),m.o.1,m.o.2.1,m.o.2.2⟩
    ·have U:((c.toNat:Int) == 34)=false:=u8n p
     have af:((c.toNat:Int) == 92)=true:=by rcases C with h | h;exact absurd h p;subst h;rfl
     clear p C;go_wp2_with (at_builtin;refine wpList_append_own _ rfl (.tmp 28) (.tmp 30) 124 rfl B 5 i0 (.int .u8 0) 1 1 underlying124 G u x y rfl (by decide) _ _ _ rfl (World.ownsRow.alloc b _) ⟨wr.heap.size,0,none⟩ 2 2 (Lib.byteCells [92,c]) rfl rfl (by exact dC wr _ _) (bV _) (by unfold maxLen;omega) (by omega) (by simp;omega) ?_;intro v2 w2 j f _)
     have m:=ae (V.o v2 w2 j f);clear j f;go_wp2;go_roundg (s.size - (k+1))
     case measure=>rw[A.o.1];omega
     case rel=>exact⟨k+1,rfl,by omega,ak (by omega),m.o.1,m.o.2.1,m.o.2.2⟩
   ·have U:((c.toNat:Int) == 34)=false:=u8n (fun h=>C (Or.inl h))
    have ac:((c.toNat:Int) == 92)=false:=u8n (fun h=>C (Or.inr h));have NQ:=ae C;clear C;by_cases Q:(c.toNat:Int) < 32
    ·go_wp2_with fail
     refine (nD B wr u0 o1 c (by omega) b q (by omega)).mono ?_;rintro e w2 ⟨⟨v2,rfl,j,f⟩,y3⟩;have m:=ae (An (show Row B w2 v2 (o ++34 :: (s.data.toList.take (k+1)).flatMap cB) by rw[←N.o];exact j) (An (n.trans f) (M.o w2 y3)));clear j f y3;go_wp2;go_roundg (s.size - (k+1))
     case measure=>rw[A.o.1];omega
     case rel=>exact⟨k+1,rfl,by omega,ak (by omega),m.o.1,m.o.2.1,m.o.2.2⟩
    ·have X:32≤(c.toNat:Int):=by omega
     have hcb:cB c=[c]:=by
      have J:∀d:UInt8,d.toNat < 32→c≠d:=by rintro d hd rfl;omega
      unfold cB;rw[if_neg NQ.o,if_neg (J 8 (by decide)),if_neg (J 12 (by decide)),if_neg (J 10 (by decide)),if_neg (J 13 (by decide)),if_neg (J 9 (by decide)),if_neg (by rw[UInt8.lt_iff_toNat_lt];show ¬c.toNat < 32;omega)]
     have L:=ae hcb;clear hcb Q;go_wp2_with (at_builtin;refine wpList_append_own _ rfl (.tmp 17) (.tmp 19) 124 rfl B 5 i0 (.int .u8 0) 1 1 underlying124 G u x y rfl (by decide) _ _ _ rfl (World.ownsRow.alloc b _) ⟨wr.heap.size,0,none⟩ 1 1 (Lib.byteCells [c]) rfl rfl (by exact dC wr _ _) (bV _) (by unfold maxLen;omega) (by omega) (by simp;omega) ?_;intro v2 w2 j f _)
     have m:=ae (An (show Row B w2 v2 (o ++34 :: (s.data.toList.take (k+1)).flatMap cB) by rw[←N.o,L.o];exact (cZ (l:=[c]) n q b j f).1) (An (cZ (l:=[c]) n q b j f).2 (M.o w2 (((Kp.refl _ _).alloc _).grown f (fun k F _=>F)))));clear j f;go_wp2;go_roundg (s.size - (k+1))
     case measure=>rw[A.o.1];omega
     case rel=>exact⟨k+1,rfl,by omega,ak (by omega),m.o.1,m.o.2.1,m.o.2.2⟩
  ·have H:decide ((k:Int) < (s.size:Int))=false:=by simp;omega
   clear r;go_wp2_with (at_builtin;refine wpList_append_own _ rfl (.tmp 39) (.tmp 40) 124 rfl B 5 i0 (.int .u8 0) 1 1 underlying124 G u x y rfl (by decide) _ _ _ rfl (World.ownsRow.alloc b _) ⟨wr.heap.size,0,none⟩ 1 1 (Lib.byteCells [34]) rfl rfl (by exact dC wr _ _) (bV _) (by unfold maxLen;omega) (by omega) (by simp;omega) ?_;intro v2 w2 j f _)
   have m:=ae (cZ (l:=[34]) n q b j f);clear j f;go_wp2;go_ret;refine⟨_,rfl, ?_,m.o.2⟩;have e1:s.data.toList.take k=s.data.toList:=List.take_of_length_le (by simp;omega);have W:=A.o.2.1;rw[e1]at W;have e3:o ++cU s.data.toList=o1 ++[34]:=by rw[←W];simp[cU]
   rw[e3];exact m.o.1
end
section
open Go Go.RowKit Go.Maps
theorem ud(k:Nat)(h:k < 16):(⟨#[48,49,50,51,52,53,54,55,56,57,97,98,99,100,101,102]⟩:ByteArray).extract k (k+1)=⟨#[gW k]⟩:=by
 match k,h with
 |0,_=>rfl
 |1,_=>rfl
 |2,_=>rfl
 |3,_=>rfl
 |4,_=>rfl
 |5,_=>rfl
 |6,_=>rfl
 |7,_=>rfl
 |8,_=>rfl
 |9,_=>rfl
 |10,_=>rfl
 |11,_=>rfl
 |12,_=>rfl
 |13,_=>rfl
 |14,_=>rfl
 |15,_=>rfl
 |n+16,h=>exact absurd h (by omega)
theorem bj(o:Bs)(b:ByteArray):(⟨o.toArray⟩:ByteArray) ++b=⟨(o ++b.data.toList).toArray⟩:=by
 apply ByteArray.ext;simp
theorem aN(o:Bs):(⟨o.toArray⟩:ByteArray).size=o.length:=by
 show o.toArray.size=o.length
 simp
theorem BG{s:ByteArray}{k:Nat}(h:k < s.size):s.extract k (k+1)=⟨#[s[k]]⟩:=by
 apply ByteArray.ext;apply Array.toList_inj.1;rw[jX,bn h];rfl
theorem lQ(w:World)(s:ByteArray)(hs:s.size≤1000000000):
  Calls prog 71 #[.string s] w fun e w'=>e=.returned (.string ⟨(cU s.data.toList).toArray⟩)∧∃n,w.drewN n=w':=by
 go_enter func71,ntmps71;go_wp2_with fail
 go_loopg [4,5] s.size (fun g a b wr=>∃(n:Nat) (O:Bs),g=s.size - n∧n≤s.size∧b=.int .i64 (n:Int)∧a=.string ⟨O.toArray⟩∧(∃m,w.drewN m=wr)∧O.length≤6*n+1∧O ++(ah s n).flatMap cB=34 :: s.data.toList.flatMap cB)
 case atStart=>exact⟨0,[34],rfl,by omega,rfl,rfl,⟨0,rfl⟩,by simp,by simp[ah]⟩
 case round=>
  obtain⟨n,O,G,S,rfl,rfl,I,R,F⟩:=hrel;have H:=ae (An G (An I F));have N:=aN O;clear G I F;by_cases x:n < s.size
  ·have y:(n:Int) < (s.size:Int):=by omega
   have t:∀(X:Bs),cB s[n]=X→(O ++X).length≤6*(n+1)+1∧(O ++X) ++(ah s (n+1)).flatMap cB=34 :: s.data.toList.flatMap cB:=by
    rintro X rfl;have:=C9 s[n];refine⟨by rw[List.length_append];omega, ?_⟩;rw[←H.o.2.2,bn x];simp
   have J:=BG x;generalize hcc:s[n]=c at *;have k:=ae (An t hcc);clear t;have hcb:=c.toNat_lt;by_cases p:c=34
   ·subst p
    go_wp2;go_roundg (s.size - (n+1))
    case measure=>rw[H.o.1];omega
    case rel=>
     obtain⟨i,j⟩:=k.o.1 [92,34] rfl;exact⟨n+1,O ++[92,34],rfl,by omega,ak (by omega),by rw[bj],H.o.2.1,i,j⟩
   by_cases q:c=92
   ·subst q
    go_wp2;go_roundg (s.size - (n+1))
    case measure=>rw[H.o.1];omega
    case rel=>
     obtain⟨i,j⟩:=k.o.1 [92,92] rfl;exact⟨n+1,O ++[92,92],rfl,by omega,ak (by omega),by rw[bj],H.o.2.1,i,j⟩
   by_cases u:c=8
   ·subst u
    go_wp2;go_roundg (s.size - (n+1))
    case measure=>rw[H.o.1];omega
    case rel=>
     obtain⟨i,j⟩:=k.o.1 [92,98] rfl;exact⟨n+1,O ++[92,98],rfl,by omega,ak (by omega),by rw[bj],H.o.2.1,i,j⟩
   by_cases f:c=12
   ·subst f
    go_wp2;go_roundg (s.size - (n+1))
    case measure=>rw[H.o.1];omega
    case rel=>
     obtain⟨i,j⟩:=k.o.1 [92,102] rfl;exact⟨n+1,O ++[92,102],rfl,by omega,ak (by omega),by rw[bj],H.o.2.1,i,j⟩
   by_cases d:c=10
   ·subst d
    go_wp2;go_roundg (s.size - (n+1))
    case measure=>rw[H.o.1];omega
    case rel=>
     obtain⟨i,j⟩:=k.o.1 [92,110] rfl;exact⟨n+1,O ++[92,110],rfl,by omega,ak (by omega),by rw[bj],H.o.2.1,i,j⟩
   by_cases h:c=13
   ·subst h
    go_wp2;go_roundg (s.size - (n+1))
    case measure=>rw[H.o.1];omega
    case rel=>
     obtain⟨i,j⟩:=k.o.1 [92,114] rfl;exact⟨n+1,O ++[92,114],rfl,by omega,ak (by omega),by rw[bj],H.o.2.1,i,j⟩
   by_cases v:c=9
   ·subst v
    go_wp2;go_roundg (s.size - (n+1))
    case measure=>rw[H.o.1];omega
    case rel=>
     obtain⟨i,j⟩:=k.o.1 [92,116] rfl;exact⟨n+1,O ++[92,116],rfl,by omega,ak (by omega),by rw[bj],H.o.2.1,i,j⟩
   have D:=u8n p;have E:=u8n q;have P:=u8n u;have A:=u8n f;have z:=u8n d;have B:=u8n h;have Q:=u8n v;simp only[UInt8.reduceToNat,Int.cast_ofNat_Int]at D E P A z B Q;by_cases K:(c.toNat:Int) < 32
   ·have r:=wg (c:=c) (by omega) u f d h v
    have l:=ae (k.o.1 _ r);clear r p q u f d h v k J;have L:=ud (c.toNat / 16) (by omega);have M:=ud (c.toNat % 16) (by omega);go_wp2;go_quiet (fail)
    go_wp2;go_roundg (s.size - (n+1))
    case measure=>rw[H.o.1];omega
    case rel=>
     refine⟨n+1,O ++[92,117,48,48,gW (c.toNat / 16),gW (c.toNat % 16)],rfl,by omega,ak (by omega), ?_, ?_,l.o.1,l.o.2⟩
     ·rw[bj,bj,bj];simp
     ·obtain⟨m,rfl⟩:=H.o.2.1
      exact⟨_,(World.drewN_drewN _ _ _).symm⟩
   ·have r:cB c=[c]:=by
     have C:¬c < 32:=by
      rw[UInt8.lt_iff_toNat_lt];show ¬c.toNat < 32
      omega
     simp[cB,p,q,u,f,d,h,v,C]
    have l:=ae (k.o.1 _ r);clear r p q u f d h v k;go_wp2;go_roundg (s.size - (n+1))
    case measure=>rw[H.o.1];omega
    case rel=>
     exact⟨n+1,O ++[c],rfl,by omega,ak (by omega),by rw[bj],H.o.2.1,l.o.1,l.o.2⟩
  ·have y:¬(n:Int) < (s.size:Int):=by omega
   go_wp2;go_ret;refine⟨?_,H.o.2.1⟩;rw[bj];have:=H.o.2.2;rw[dx (by omega)]at this;simp at this;rw[this];simp[cU]
theorem pn(c:UInt8)(o:Bs):(⟨#[c]⟩:ByteArray) ++⟨o.toArray⟩=⟨(c :: o).toArray⟩:=by
 apply ByteArray.ext;simp
theorem qM(w:World)(y:Int)(c:UInt8)(h:y=(c.toNat:Int)):(convert 124 9 (.slice (some ⟨w.heap.size,0,none⟩) 1 1)).run prog (w.alloc (.cells #[.int .u8 y] 5))=.ok (.string ⟨#[c]⟩) (w.alloc (.cells #[.int .u8 y] 5)):=by
 subst h
 have a:(w.alloc (.cells #[.int .u8 (c.toNat:Int)] 5)).ownsRow 0 5 1 (.slice (some ⟨w.heap.size,0,none⟩) 1 1) 1 (Lib.byteCells [c]):=
  ⟨rfl,.inr ⟨w.heap.size,1,_,rfl,Nat.zero_le _,heap_alloc_new w _,Nat.le_refl _,by decide,rfl,rfl⟩⟩
 exact kK a
theorem qk(w:World)(n:Nat)(hn:n≤9007199254740991):
  Calls prog 70 #[.int .i64 (n:Int)] w fun e w'=>e=.returned (.string ⟨(dA n).toArray⟩)∧Kp (fun _=>False) w w':=by
 have p:¬(n:Int) < 0:=by omega
 go_enter func70,ntmps70;go_wp2_with fail
 go_loopg [0,4] n (fun g a b wr=>∃(k:Nat) (o:Bs),g=k∧k≤n∧a=.int .i64 (k:Int)∧b=.string ⟨o.toArray⟩∧Kp (fun _=>False) w wr∧o.length+k≤9007199254740991∧dA k ++o=dA n)
 case atStart=>exact⟨n,[],rfl,Nat.le_refl _,rfl,rfl,Kp.refl _ _,by simpa using hn,by simp⟩
 case round=>
  obtain⟨k,o,j,r,rfl,rfl,l,s,i⟩:=hrel;have m:=aN o;have H:=ae (An j i);clear j i;by_cases q:9 < k
  ·have f:(9:Int) < (k:Int):=by omega
   obtain⟨c,hc⟩:∃c,c=UInt8.ofNat (48+k % 10):=⟨_,rfl⟩;have h:=fun w1:World=>qM w1 (48+(k:Int) % 10) c (by rw[hc,cv _ (by omega)];omega)
   have d:=ae hc;clear hc;go_wp2;go_roundg (k / 10)
   case measure=>rw[H.o.1];omega
   case rel=>
    refine⟨k / 10,c :: o,rfl,by omega,ak (by omega),by rw[pn],l.alloc _,by simp only[List.length_cons];omega, ?_⟩;rw[←H.o.2];conv=>rhs;rw[dA]
    rw[if_neg (by omega),d.o];simp
  ·have f:¬(9:Int) < (k:Int):=by omega
   obtain⟨c,hc⟩:∃c,c=UInt8.ofNat (48+k):=⟨_,rfl⟩;have h:=fun w1:World=>qM w1 (48+(k:Int)) c (by rw[hc,cv _ (by omega)];omega)
   have d:=ae hc;clear hc;go_wp2;go_ret;refine⟨?_,l.alloc _⟩;rw[pn,←H.o.2];conv=>rhs;rw[dA]
   rw[if_pos (by omega),d.o];rfl
theorem yR(n:Nat):∀k,n < 10 ^ (k+1)→(dA n).length≤k+1:=by
 intro k
 induction k generalizing n with
 |zero=>
  intro h;rw[dA,if_pos (by omega)];simp
 |succ k ih=>
  intro h;rw[dA];split
  ·simp
  ·have:=ih (n / 10) (by rw[Nat.pow_succ]at h;omega)
   simp only[List.length_append,List.length_cons,List.length_nil];omega
theorem xP(w:World)(n:Int)(hn:n.natAbs≤9007199254740991):
  Calls prog 70 #[.int .i64 n] w fun e w'=>e=.returned (.string ⟨(gT n).toArray⟩)∧Kp (fun _=>False) w w':=by
 by_cases h:n < 0
 ·have b : -n=((n.natAbs:Nat):Int):=by omega
  have i:=yR n.natAbs 20 (by omega);have c:Hid (gT n=45 :: dA n.natAbs):=by unfold gT;rw[if_pos h];exact ae rfl
  have a:=qk w n.natAbs hn;rw[←b]at a;have d:=ae a;have g:=aN (dA n.natAbs);clear a b;go_enter func70,ntmps70;go_wp2_with fail
  refine d.o.mono ?_;rintro e w1 ⟨rfl,f⟩;go_wp2;go_ret;refine⟨?_,f⟩;rw[c.o,pn];rfl
 ·have b:n=((n.natAbs:Nat):Int):=by omega
  have a:=qk w n.natAbs hn;rw[←b]at a;have c:gT n=dA n.natAbs:=by unfold gT;rw[if_neg h]
  rw[c];exact a
def jd(ks:List Bs)(i:Nat)(l:List Nat):List Nat:=l.takeWhile (fun j=>decide (ks.getD j [] < ks.getD i [])) ++i :: l.dropWhile (fun j=>decide (ks.getD j [] < ks.getD i []))
def bQ(ks:List Bs):Nat→List Nat
 |0=>[]
 |n+1=>jd ks n (bQ ks n)
theorem pJ{α:Type}(p:α→Bool)(l:List α):l.take (l.takeWhile p).length=l.takeWhile p:=by
 induction l with
 |nil=>rfl
 |cons a l ih=>
  by_cases h:p a=true
  ·simp[h,ih]
  ·simp[h]
theorem pI{α:Type}(p:α→Bool)(l:List α):l.drop (l.takeWhile p).length=l.dropWhile p:=by
 induction l with
 |nil=>rfl
 |cons a l ih=>
  by_cases h:p a=true
  ·simp[h,ih]
  ·simp[h]
theorem wZ(ks:List Bs)(i:Nat)(l:List Nat):(jd ks i l).length=l.length+1:=by
 have:=congrArg List.length (List.takeWhile_append_dropWhile (p:=fun j=>decide (ks.getD j [] < ks.getD i [])) (l:=l));rw[List.length_append]at this;simp only[jd,List.length_append,List.length_cons];omega
theorem gM(ks:List Bs)(n:Nat):(bQ ks n).length=n:=by
 induction n with
 |zero=>rfl
 |succ n ih=>rw[bQ,wZ,ih]
theorem nr(ks:List Bs)(n:Nat):∀j ∈ bQ ks n,j < n:=by
 induction n with
 |zero=>intro j a;cases a
 |succ n ih=>
  intro j a;rw[bQ,jd]at a;rcases List.mem_append.1 a with h | h
  ·have:=ih j (List.takeWhile_subset _ h)
   omega
  ·rcases List.mem_cons.1 h with rfl | h
   ·omega
   ·have:=ih j (List.dropWhile_subset _ h)
    omega
theorem oo{α:Type}(k:Bs)(v:α):∀(l:List (Bs×α)),Srt l→ai k l=none→aC k v l=l.takeWhile (fun p=>decide (p.1 < k)) ++(k,v) :: l.dropWhile (fun p=>decide (p.1 < k))
 | [],_,_=>rfl
 | (a,x) :: l,hs,hn=>by
  obtain⟨g,f⟩:=List.pairwise_cons.1 hs
  have c:a≠k:=by
   intro e;simp[ai,e]at hn
  have d:ai k l=none:=by simpa[ai,c] using hn
  unfold aC;by_cases b:k < a
  ·rw[if_pos b]
   have:¬a < k:=fun h=>dz _ (kC h b)
   simp[this]
  ·rw[if_neg b,if_neg c]
   have:a < k:=by
    rcases xo a k with h | h | h
    ·exact h
    ·exact absurd h c
    ·exact absurd h b
   simp only[List.takeWhile_cons,List.dropWhile_cons,this,decide_true,if_true,List.cons_append];rw[oo k v l f d]
theorem jg{α:Type}(x:List (Bs×α))(hx:Nod x):∀n,n≤x.length→(bQ (x.map (·.1)) n).map (fun j=>x[j]?)=(ofL (x.take n)).map some:=by
 intro n
 induction n with
 |zero=>intro _;rfl
 |succ n o=>
  intro t;have o:=o (by omega);have c:n < x.length:=by omega
  have m:x.take (n+1)=x.take n ++[x[n]]:=by rw[List.take_succ_eq_append_getElem c]
  have b:Nod (x.take (n+1)):=by
   unfold Nod at *;rw[List.map_take];exact (List.take_sublist _ _).nodup hx
  rw[m]at b ⊢;obtain⟨k,l⟩:=(eV (x.take n) x[n].1 x[n].2).1 b;have g:ai x[n].1 (ofL (x.take n))=none:=by rw[eU _ _ k];exact l
  rw[show x.take n ++[x[n]]=x.take n ++[(x[n].1,x[n].2)] from rfl,eY,oo _ _ _ (fR _) g,bQ,jd];generalize hL:ofL (x.take n)=L at *;generalize hI:bQ (x.map (·.1)) n=I at *;have f:(x.map (·.1)).getD n []=x[n].1:=by rw[List.getD,List.getElem?_map,List.getElem?_eq_getElem c];rfl
  rw[f]
  have key:∀(I:List Nat) (L:List (Bs×α)),I.map (fun j=>x[j]?)=L.map some→(I.takeWhile (fun j=>decide ((x.map (·.1)).getD j [] < x[n].1))).map (fun j=>x[j]?)=(L.takeWhile (fun p=>decide (p.1 < x[n].1))).map some∧(I.dropWhile (fun j=>decide ((x.map (·.1)).getD j [] < x[n].1))).map (fun j=>x[j]?)=(L.dropWhile (fun p=>decide (p.1 < x[n].1))).map some:=by
   intro I
   induction I with
   |nil=>
    intro L h
    cases L with
    |nil=>exact⟨rfl,rfl⟩
    |cons a L=>simp at h
   |cons i I ihI=>
    intro L h
    cases L with
    |nil=>simp at h
    |cons a L=>
     simp only[List.map_cons,List.cons.injEq]at h;obtain⟨d,s⟩:=h;have e:(x.map (·.1)).getD i []=a.1:=by rw[List.getD,List.getElem?_map,d];rfl
     obtain⟨q,r⟩:=ihI L s;simp only[List.takeWhile_cons,List.dropWhile_cons,e];by_cases hp:a.1 < x[n].1
     ·simp only[hp,decide_true,if_true,List.map_cons,d,q,r,and_self]
     ·simp only[hp,decide_false,Bool.false_eq_true,if_false,List.map_cons,List.map_nil,d,s,and_self]
  obtain⟨q,r⟩:=key I L o;rw[List.map_append,List.map_cons,List.map_append,List.map_cons,q,r,List.getElem?_eq_getElem c]
end
end Go.Proofs.YtocligpfmfmihaaGreatDoor
