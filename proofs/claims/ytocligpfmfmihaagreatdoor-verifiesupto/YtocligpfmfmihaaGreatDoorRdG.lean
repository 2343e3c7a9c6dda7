import Derived.Test.YtocligpfmfmihaaGreatDoorProg
import Derived.WalkKit
import Derived.WalkSpells
import Derived.WalkLawsBesides
import Derived.Below
import Derived.Deep.QuietTactic
import Derived.BigQuiet
import Derived.Deep.LoopGhost
import Derived.Test.YtocligpfmfmihaaGreatDoorJson
import Derived.Lib.Strings
import Derived.Lib.IndexBytes
namespace Go.Proofs.YtocligpfmfmihaaGreatDoor
open Go.Proofs.Tryz
section
open Go Go.RowKit
theorem ae{p:Prop}(h:p):Hid p:=h
theorem An{a b:Prop}(x:a)(y:b):a∧b:=⟨x,y⟩
theorem _root_.Go.RowKit.Hid.o{p:Prop}(h:Hid p):p:=h
structure Kp(S:Nat→Prop)(w w':World):Prop where
 os:w'.os=w.os
 tape:w'.tape=w.tape
 output:w'.output=w.output
 size:w.heap.size≤w'.heap.size
 block:∀k,k < w.heap.size→¬S k→w'.heap[k]? =w.heap[k]?
variable{S:Nat→Prop}{a b c w w':World}
theorem Kp.refl(S:Nat→Prop)(w:World):Kp S w w:=⟨rfl,rfl,rfl,Nat.le_refl _,fun _ _ _=>rfl⟩
theorem Kp.trans(h:Kp S a b)(k:Kp S b c):Kp S a c:=
 ⟨k.os.trans h.os,k.tape.trans h.tape,k.output.trans h.output,Nat.le_trans h.size k.size,fun i hi hs=>(k.block i (Nat.lt_of_lt_of_le hi h.size) hs).trans (h.block i hi hs)⟩
theorem Kp.mono{T:Nat→Prop}(h:Kp S a b)(hT:∀k,k < a.heap.size→S k→T k):Kp T a b:=
 ⟨h.os,h.tape,h.output,h.size,fun i hi hs=>h.block i hi (fun x=>hs (hT i hi x))⟩
theorem Kp.drewN(h:Kp S a w)(n:Nat):Kp S a (w.drewN n):=h.trans ⟨rfl,rfl,rfl,Nat.le_refl _,fun _ _ _=>rfl⟩
theorem Kp.drew(h:Kp S a w):Kp S a w.drew:=⟨h.os,h.tape,h.output,h.size,h.block⟩
theorem Kp.alloc(h:Kp S a w)(o:Obj):Kp S a (w.alloc o):=
 h.trans ⟨rfl,rfl,rfl,by simp,fun _ hk _=>Below.heap_alloc _ _ _ hk⟩
theorem Kp.setCell(h:Kp S a w){p:Addr}(hp:p.block < a.heap.size→S p.block)(u:Value):Kp S a (w.setCell p u):=
 ⟨h.os,h.tape,h.output,by simpa[World.setCell] using h.size,fun k hk hs=>by rw[Below.heap_setCell _ _ _ _ (by rintro rfl;exact hs (hp hk))];exact h.block k hk hs⟩
theorem Kp.cell(h:Kp S w w'){p:Addr}(hp:p.block < w.heap.size)(hs:¬S p.block):w'.cell? p=w.cell? p:=World.cell?_of_block (w:=w) (h.block p.block hp hs)
theorem Kp.frozen(h:Kp S w w'){p:Addr}(hp:p.block < w.heap.size)(hs:¬S p.block):w'.frozen? p=w.frozen? p:=World.frozen?_of_block (w:=w) (h.block p.block hp hs)
def Rdr(w:World)(rb:Nat)(s:ByteArray)(k d:Nat):Prop:=
 w.heap[rb]? =some (.cells #[.string s,.int .i64 k,.int .i64 d] 203)
theorem Rdr.facts{rb k d:Nat}{s:ByteArray}(h:Rdr w rb s k d):
  w.cell? ⟨rb,0,none⟩=some (.string s)∧w.cell? ⟨rb,1,none⟩=some (.int .i64 k)∧w.cell? ⟨rb,2,none⟩=some (.int .i64 d) ∧
  w.frozen? ⟨rb,1,none⟩=false∧w.frozen? ⟨rb,2,none⟩=false∧rb < w.heap.size:=by
 unfold Rdr at h
 have b:rb < w.heap.size:=by
  rcases Nat.lt_or_ge rb w.heap.size with a | a
  ·exact a
  ·rw[Array.getElem?_eq_none a]at h;cases h
 refine⟨?_, ?_, ?_, ?_, ?_,b⟩ <;> simp[World.cell?,World.frozen?,h]
theorem Rdr.setAt{rb k d:Nat}{s:ByteArray}(h:Rdr w rb s k d)(k':Nat):Rdr (w.setCell ⟨rb,1,none⟩ (.int .i64 k')) rb s k' d:=by
 unfold Rdr at *;simp[World.setCell,Array.getElem?_modify,h]
theorem Rdr.setDepth{rb k d:Nat}{s:ByteArray}(h:Rdr w rb s k d)(d':Nat):Rdr (w.setCell ⟨rb,2,none⟩ (.int .i64 d')) rb s k d':=by
 unfold Rdr at *;simp[World.setCell,Array.getElem?_modify,h]
theorem Rdr.kp{rb k d:Nat}{s:ByteArray}(h:Rdr w rb s k d)(hk:Kp S w w')(hs:¬S rb):Rdr w' rb s k d:=by
 have a:=h.facts.2.2.2.2.2;unfold Rdr at *;rw[hk.block rb a hs,h]
def ax(cb:Addr):Value:=.iface 415 (.pointer (some cb))
def mN(W:World)(g:Nat)(cb:Addr):Prop:=
 W.cell? ⟨g,0,none⟩=some (ax cb)∧cb.block < W.heap.size∧∀h ∈ [0,1,2,3],W.cell? ⟨h,0,none⟩≠some (ax cb)∧∃c t,W.heap[cb.block]? =some (.cells c t)
structure Glob(W:World):Prop where
 sz:31≤W.heap.size
 val:∀g ∈ [20,23,24,25,21,12,22,8,19,27,18,10],
  ∃cb,mN W g cb
structure St(W w:World)(rb:Nat)(s:ByteArray)(k d:Nat):Prop where
 glob:Glob W
 old:Below W.heap.size W w
 rdr:Rdr w rb s k d
 ge:W.heap.size≤rb
 le:k≤s.size
 sz:s.size≤600
def eP(W w w':World)(e:Ending):Prop:=
 ∃(fb:Nat) (k:Int) (g:Nat) (cb:Addr),e=.panicked [{ v:=.iface 116 (.pointer (some ⟨fb,0,none⟩)),recovered:=false }]∧w.heap.size≤fb ∧
  w'.heap[fb]? =some (.cells #[.int .i64 k,ax cb] 239)∧mN W g cb
def ah(s:ByteArray)(k:Nat):List UInt8:=s.data.toList.drop k
def Res{α:Type}(W:World)(rb:Nat)(s:ByteArray)(d:Nat)(w:World)(o:Option (α×List UInt8))(V:World→α→Value→Prop)(e:Ending)(w':World):Prop:=
 Kp (· =rb) w w'∧match o with
 |some (x,r)=>∃v k',e=.returned v∧V w' x v∧St W w' rb s k' d∧ah s k'=r
 |none=>eP W w w' e
theorem aU{α:Type}{W:World}{rb:Nat}{s:ByteArray}{d k':Nat}{o:Option (α×List UInt8)}{V:World→α→Value→Prop}{x:α}{r:List UInt8}{v:Value}
  (h:o=some (x,r)) (hk:Kp (· =rb) w w') (hv:V w' x v) (hs:St W w' rb s k' d) (hr:ah s k'=r):Res W rb s d w o V (.returned v) w':=by
 subst h;exact⟨hk,v,k',rfl,hv,hs,hr⟩
theorem aX{α:Type}{W:World}{rb:Nat}{s:ByteArray}{d:Nat}{o:Option (α×List UInt8)}{V:World→α→Value→Prop}{e:Ending}
  (h:o=none) (hk:Kp (· =rb) w w'∧eP W w w' e):Res W rb s d w o V e w':=by
 subst h;exact hk
theorem St.next{W:World}{rb k d k' d':Nat}{s:ByteArray}(h:St W w rb s k d)(hk:Kp (· =rb) w w')(hr:Rdr w' rb s k' d')(hle:k'≤s.size):St W w' rb s k' d':=
 ⟨h.glob,h.old.trans ⟨hk.os,hk.tape,hk.output,hk.size,fun i hi=>hk.block i (Nat.lt_of_lt_of_le hi h.old.size) (by have:=h.ge;omega)⟩,hr,h.ge,hle,h.sz⟩
theorem St.drewN{W:World}{rb k d:Nat}{s:ByteArray}(h:St W w rb s k d)(n:Nat):St W (w.drewN n) rb s k d:=
 h.next ((Kp.refl _ _).drewN n) h.rdr h.le
theorem St.at{W:World}{rb k d:Nat}{s:ByteArray}(h:St W w rb s k d)(k':Nat)(hle:k'≤s.size):St W (w.setCell ⟨rb,1,none⟩ (.int .i64 k')) rb s k' d:=
 h.next (Kp.setCell (p:=⟨rb,_,none⟩) (Kp.refl (· =rb) w) (fun _=>rfl) _) (h.rdr.setAt k') hle
theorem St.dep{W:World}{rb k d:Nat}{s:ByteArray}(h:St W w rb s k d)(d':Nat):St W (w.setCell ⟨rb,2,none⟩ (.int .i64 d')) rb s k d':=
 h.next (Kp.setCell (p:=⟨rb,_,none⟩) (Kp.refl (· =rb) w) (fun _=>rfl) _) (h.rdr.setDepth d') h.le
theorem St.err{W:World}{rb k d:Nat}{s:ByteArray}(h:St W w rb s k d)(g:Nat)(hm:g ∈ [20,23,24,25,21,12,22,8,19,27,18,10])(hg:g < 31):
  ∃a,w.cell? ⟨g,0,none⟩=some (.iface 415 (.pointer (some a)))∧mN W g a:=by
 obtain⟨a,b⟩:=h.glob.val g hm;exact⟨a,(h.old.cell (p:=⟨g,0,none⟩) (by have:=h.glob.sz;show g < _;omega)).trans b.1,b⟩
theorem bL{W w1:World}{rb g:Nat}{cb:Addr}{k:Int}(hk:Kp (· =rb) w w1)(he:mN W g cb):
  Kp (· =rb) w (w1.alloc (.cells #[.int .i64 k,.iface 415 (.pointer (some cb))] 239)) ∧
  eP W w (w1.alloc (.cells #[.int .i64 k,.iface 415 (.pointer (some cb))] 239)) (.panicked [{ v:=.iface 116 (.pointer (some ⟨w1.heap.size,0,none⟩)),recovered:=false }]):=
 ⟨hk.alloc _,w1.heap.size,k,g,cb,rfl,hk.size,by show (w1.heap.push _)[w1.heap.size]? =_;simp[ax],he⟩
theorem bn{s:ByteArray}{k:Nat}(h:k < s.size):ah s k=s[k] :: ah s (k+1):=by
 unfold ah;rw[List.drop_eq_getElem_cons (by simpa using h)];rfl
theorem dx{s:ByteArray}{k:Nat}(h:s.size≤k):ah s k=[]:=by unfold ah;exact List.drop_of_length_le (by simpa using h)
theorem cV(rb:Nat)(s:ByteArray)(k d:Nat)(w:World)(hr:Rdr w rb s k d)(t:TypeId)(c:Value):
  Calls prog 111 #[.pointer (some ⟨rb,0,none⟩),.iface t c] w fun e w'=>
   e=.returned (.pointer (some ⟨w.heap.size,0,none⟩))∧w.alloc (.cells #[.int .i64 k,.iface t c] 239)=w':=by
 obtain⟨a,b,f,f1,f2,g⟩:=hr.facts;go_enter func111,ntmps111;go_wp2;go_ret;exact⟨rfl,rfl⟩
theorem xx(W:World)(rb:Nat)(s:ByteArray)(k d:Nat)(w:World)(hr:St W w rb s k d)(hk:k < s.size):
  Calls prog 158 #[.pointer (some ⟨rb,0,none⟩)] w fun e w'=>
   e=.returned (.int .u8 s[k].toNat)∧∃n,w'=w.drewN n:=by
 obtain⟨c,f,g,f1,f2,h⟩:=hr.rdr.facts;have b:=hr.sz;have a:((k:Int) == (s.size:Int))=false:=by simp;omega
 go_enter func158,ntmps158;go_wp2;go_quiet (fail)
 go_wp2;go_quiet (fail)
 go_wp2;go_ret;simp only[World.drewN_drewN];exact⟨rfl,_,rfl⟩
theorem xw(W:World)(rb:Nat)(s:ByteArray)(k d:Nat)(w:World)(hr:St W w rb s k d)(hk:k=s.size):
  Calls prog 158 #[.pointer (some ⟨rb,0,none⟩)] w fun e w'=>
   e=.returned (.int .u8 0)∧∃n,w'=w.drewN n:=by
 obtain⟨c,f,g,f1,f2,h⟩:=hr.rdr.facts;have b:=hr.sz;have a:((k:Int) == (s.size:Int))=true:=by simp;omega
 clear hk;go_enter func158,ntmps158;go_wp2;go_quiet (fail)
 go_wp2;go_ret;exact⟨rfl,_,rfl⟩
def nxt(l:List UInt8):UInt8:=l.headD 0
theorem oD(W:World)(rb:Nat)(s:ByteArray)(k d:Nat)(w:World)(hr:St W w rb s k d):
  Calls prog 158 #[.pointer (some ⟨rb,0,none⟩)] w fun e w'=>
   e=.returned (.int .u8 (nxt (ah s k)).toNat)∧∃n,w.drewN n=w':=by
 by_cases a:k < s.size
 ·rw[bn a]
  exact (xx W rb s k d w hr a).mono (by rintro e w' ⟨rfl,n,rfl⟩;exact⟨rfl,n,rfl⟩)
 ·rw[dx (by omega)]
  exact (xw W rb s k d w hr (by have:=hr.le;omega)).mono (by rintro e w' ⟨rfl,n,rfl⟩;exact⟨rfl,n,rfl⟩)
theorem dw(W:World)(rb:Nat)(s:ByteArray)(k d:Nat)(w:World)(hr:St W w rb s k d)(hk:k < s.size):
  Calls prog 206 #[.pointer (some ⟨rb,0,none⟩)] w fun e w'=>
   e=.returned (.int .u8 s[k].toNat)∧St W w' rb s (k+1) d∧Kp (· =rb) w w':=by
 obtain⟨c,f,g,f1,f2,h⟩:=hr.rdr.facts;have b:=hr.sz;have a:((k:Int) == (s.size:Int))=false:=by simp;omega
 go_enter func206,ntmps206;go_wp2;go_quiet (fail)
 go_wp2;go_quiet (fail)
 go_wp2;go_ret;exact⟨rfl,(hr.drewN _).at (k+1) hk,Kp.setCell (p:=⟨rb,1,none⟩) ((Kp.refl (· =rb) _).drewN _) (fun _=>rfl) _⟩
theorem nu(W:World)(rb:Nat)(s:ByteArray)(k d:Nat)(w:World)(hr:St W w rb s k d)(hk:k=s.size):
  Calls prog 206 #[.pointer (some ⟨rb,0,none⟩)] w fun e w'=>Kp (· =rb) w w'∧eP W w w' e:=by
 obtain⟨f,g,h,f1,f2,j⟩:=hr.rdr.facts;have c:=hr.sz;obtain⟨i,l,a⟩:=hr.err 24 (by decide) (by decide);have b:((k:Int) == (s.size:Int))=true:=by simp;omega
 clear hk;go_enter func206,ntmps206;go_wp2;go_quiet (fail)
 go_wp2_with (go_at_call 111;refine (cV rb s k d _ (hr.drewN _).rdr _ _).mono ?_;rintro e w' ⟨rfl,rfl⟩)
 exact⟨rfl,bL ((Kp.refl _ _).drewN _) a⟩
theorem u8b(c d:UInt8):((c.toNat:Int) == (d.toNat:Int))=(c == d):=by rw[Bool.eq_iff_iff];simp[←UInt8.toNat_inj];omega
theorem ph(c:UInt8):gt c=(((c.toNat:Int) == 32) || ((c.toNat:Int) == 9) || ((c.toNat:Int) == 10) || ((c.toNat:Int) == 13)):=by
 have a:=u8b c 32;have b:=u8b c 9;have d:=u8b c 10;have e:=u8b c 13;unfold gt;rw[←a,←b,←d,←e];rfl
theorem Br{s:ByteArray}{k:Nat}{c:UInt8}(h:nxt (ah s k)=c)(hb:gt c=true):k < s.size∧sk (ah s (k+1))=sk (ah s k):=by
 by_cases a:k < s.size
 ·refine⟨a, ?_⟩
  rw[bn a]at h ⊢;simp only[nxt,List.headD_cons]at h;simp[sk,h,hb]
 ·rw[dx (by omega)]at h
  subst h;exact absurd hb (by decide)
theorem Bt{s:ByteArray}{k:Nat}{c:UInt8}(h:nxt (ah s k)=c)(hb:gt c=false):ah s k=sk (ah s k):=by
 by_cases a:k < s.size
 ·rw[bn a]at h ⊢
  simp only[nxt,List.headD_cons]at h;simp[sk,h,hb]
 ·rw[dx (by omega)];rfl
theorem ek{s:ByteArray}{k:Nat}{c:UInt8}{t:List UInt8}(h:ah s k=c :: t):k < s.size∧nxt (ah s k)=c∧ah s (k+1)=t∧∀a:k < s.size,s[k]=c:=by
 by_cases a:k < s.size
 ·rw[bn a]at h
  injection h with b d
  exact⟨a,by rw[bn a];exact b,d,fun _=>b⟩
 ·rw[dx (by omega)]at h;cases h
theorem oM(l:List UInt8):sk (sk l)=sk l:=by
 unfold sk
 induction l with
 |nil=>rfl
 |cons a l ih=>
  by_cases h:gt a=true
  ·simpa[List.dropWhile_cons,h] using ih
  ·simp[h]
theorem gi(W:World)(rb:Nat)(s:ByteArray)(k d:Nat)(w:World)(hr:St W w rb s k d):
  Calls prog 110 #[.pointer (some ⟨rb,0,none⟩)] w fun e w'=>
   e=.returned (.tuple #[])∧Kp (· =rb) w w'∧∃k',St W w' rb s k' d∧ah s k'=sk (ah s k):=by
 have t:=hr.sz;go_enter func110,ntmps110;go_wp2
 go_loopg [] (s.size - k) (fun g wr=>∃k',g=s.size - k'∧St W wr rb s k' d∧Kp (· =rb) w wr∧sk (ah s k')=sk (ah s k))
 case atStart=>exact⟨k,rfl,hr,Kp.refl _ _,rfl⟩
 case round=>
  obtain⟨k',l,b,i,j⟩:=hrel;have A:=ae (An l j);clear l j;have r:=b.le;obtain⟨u,v,x,f1,f2,y⟩:=b.rdr.facts;generalize hc:nxt (ah s k')=c;have f:=ae hc;clear hc;have h:=ae (ph c);go_wp2_with (go_at_call 158;refine (oD W rb s k' d _ b).mono ?_;rintro e w' ⟨rfl,n,rfl⟩;rw[f.o])
  iterate 4
   ·have a:gt c=true:=by rw[h.o];simp[*]
    obtain⟨m,q⟩:=Br f.o a;go_roundg (s.size - (k'+1))
    case measure=>rw[A.o.1];omega
    case rel=>exact⟨k'+1,rfl,(b.drewN _).at (k'+1) m,Kp.setCell (p:=⟨rb,1,none⟩) (i.drewN _) (fun _=>rfl) _,q.trans A.o.2⟩
  ·have a:gt c=false:=by rw[h.o];simp[*]
   refine bodyPost_ret (results_none rfl _ _ _) rfl ?_;exact⟨rfl,i.drewN _,k',b.drewN _,(Bt f.o a).trans A.o.2⟩
theorem kP(W:World)(rb:Nat)(s:ByteArray)(k d:Nat)(w:World)(hr:St W w rb s k d)(q:Int)(b:UInt8)(hq:q=b.toNat)(t:List UInt8)(ht:sk (ah s k)=b :: t):
  Calls prog 209 #[.pointer (some ⟨rb,0,none⟩),.int .u8 q] w fun e w'=>
   e=.returned (.bool true)∧Kp (· =rb) w w'∧∃k',St W w' rb s k' d∧ah s k'=t:=by
 have u:=hr.sz;have i:=ae ht;have h:=ae hq;clear ht hq;go_enter func209,ntmps209;go_wp2_with fail
 refine (gi W rb s k d _ hr).mono ?_;rintro e w1 ⟨rfl,l,g,a,c⟩;obtain⟨j,f,g3,_⟩:=ek (c.trans i.o);have H:=ae (An c (An f g3));clear c f g3;have r:=a.le;obtain⟨v,x,y,f1,f2,m⟩:=a.rdr.facts;have m:(((b.toNat:Int)) != q)=false:=by rw[h.o];simp
 go_wp2_with fail
 refine (oD W rb s g d _ a).mono ?_;rintro e w2 ⟨rfl,n,rfl⟩;rw[H.o.2.1];go_wp2;go_ret;exact⟨rfl,Kp.setCell (p:=⟨rb,1,none⟩) (l.drewN _) (fun _=>rfl) _,g+1,(a.drewN _).at _ j,H.o.2.2⟩
theorem mo(W:World)(rb:Nat)(s:ByteArray)(k d:Nat)(w:World)(hr:St W w rb s k d)(q:Int)(b:UInt8)(hq:q=b.toNat)(h0:b≠0)(ht:(sk (ah s k)).head? ≠some b):
  Calls prog 209 #[.pointer (some ⟨rb,0,none⟩),.int .u8 q] w fun e w'=>
   e=.returned (.bool false)∧Kp (· =rb) w w'∧∃k',St W w' rb s k' d∧ah s k'=sk (ah s k):=by
 have u:=hr.sz;have m:=ae ht;have j:=ae hq;clear ht hq;go_enter func209,ntmps209;go_wp2_with fail
 refine (gi W rb s k d _ hr).mono ?_;rintro e w1 ⟨rfl,p,h,g,i⟩
 have f:nxt (ah s h)≠b:=by
  rw[i];intro e;have:=m.o;generalize sk (ah s k)=l at e this
  cases l with
  |nil=>exact h0 e.symm
  |cons a l=>exact this (by simpa[nxt] using e)
 generalize hc:nxt (ah s h)=c at f;have H:=ae (An i (An hc f))
 have r:(((c.toNat:Int)) != q)=true:=by
  rw[j.o,bne_iff_ne];intro e;exact f (UInt8.toNat_inj.1 (by omega))
 clear i hc f;have t:=g.le;obtain⟨v,x,y,f1,f2,r⟩:=g.rdr.facts;go_wp2_with fail
 refine (oD W rb s h d _ g).mono ?_;rintro e w2 ⟨rfl,n,rfl⟩;rw[H.o.2.1];go_wp2;go_ret;exact⟨rfl,p.drewN _,h,g.drewN _,H.o.1⟩
theorem kE(W:World)(rb:Nat)(s:ByteArray)(k d:Nat)(w:World)(hr:St W w rb s k d)(q:Int)(b:UInt8)(hq:q=b.toNat)(t:List UInt8)(ht:sk (ah s k)=b :: t):
  Calls prog 204 #[.pointer (some ⟨rb,0,none⟩),.int .u8 q] w fun e w'=>
   e=.returned (.tuple #[])∧Kp (· =rb) w w'∧∃k',St W w' rb s k' d∧ah s k'=t:=by
 have c:=ae hq;clear hq;go_enter func204,ntmps204;go_wp2_with fail
 refine (kP W rb s k d _ hr q b c.o t ht).mono ?_;rintro e w1 ⟨rfl,f,h,g,a⟩;have H:=ae a;clear a;go_wp2;go_end0
 exact⟨rfl,f,h,g,H.o⟩
theorem ur(W:World)(rb:Nat)(s:ByteArray)(k d:Nat)(w:World)(hr:St W w rb s k d)(q:Int)(b:UInt8)(hq:q=b.toNat)(h0:b≠0)(ht:(sk (ah s k)).head? ≠some b):
  Calls prog 204 #[.pointer (some ⟨rb,0,none⟩),.int .u8 q] w fun e w'=>Kp (· =rb) w w'∧eP W w w' e:=by
 have f:=ae hq;clear hq;go_enter func204,ntmps204;go_wp2_with fail
 refine (mo W rb s k d _ hr q b f.o h0 ht).mono ?_;rintro e w1 ⟨rfl,g,i,a,c⟩;have H:=ae c;clear c;obtain⟨j,l,h⟩:=a.err 19 (by decide) (by decide);go_wp2_with (go_at_call 111;refine (cV rb s i d _ a.rdr _ _).mono ?_;rintro e w' ⟨rfl,rfl⟩)
 exact⟨rfl,bL g h⟩
end
section
open Go Go.RowKit
theorem eS(w:World)(c:UInt8):
  Calls prog 162 #[.int .u8 c.toNat] w fun e w'=>e=.returned (.bool (aW c))∧w=w':=by
 have a:c.toNat < 256:=c.toNat_lt
 have h:aW c=(decide (48≤(c.toNat:Int)) && decide ((c.toNat:Int)≤57)):=by
  unfold aW;rw[Bool.eq_iff_iff];simp[UInt8.le_iff_toNat_le];omega
 have H:=ae h;clear h;go_enter func162,ntmps162;go_wp2
 all_goals
  go_ret;refine⟨?_,rfl⟩;rw[H.o]
  first | (simp[*];done) | (simp[*];omega)
def gn(l:List UInt8):Option (Nat×List UInt8):=match l with | []=>none | c :: t=>(bG c).map fun v=>(v,t)
theorem jG{c:UInt8}(h:aW c=true):bG c=some (c.toNat - 48)∧48≤(c.toNat:Int)∧(c.toNat:Int)≤57:=by
 unfold aW at h;simp only[Bool.and_eq_true,decide_eq_true_eq]at h;unfold bG;rw[if_pos h];rw[UInt8.le_iff_toNat_le,UInt8.le_iff_toNat_le]at h;have a:(48:UInt8).toNat=48:=rfl;have b:(57:UInt8).toNat=57:=rfl;exact⟨rfl,by omega,by omega⟩
theorem wX{c:UInt8}(h:aW c=false):bG c=if 97≤(c.toNat:Int)∧(c.toNat:Int)≤102 then some (c.toNat - 97+10) else if 65≤(c.toNat:Int)∧(c.toNat:Int)≤70 then some (c.toNat - 65+10) else none:=by
 unfold aW at h;unfold bG;rw[if_neg (by intro ⟨a,b⟩;simp[a,b]at h)]
 have d:(97≤c∧c≤102)↔(97≤(c.toNat:Int)∧(c.toNat:Int)≤102):=by
  rw[UInt8.le_iff_toNat_le,UInt8.le_iff_toNat_le];have f:(97:UInt8).toNat=97:=rfl;have g:(102:UInt8).toNat=102:=rfl;omega
 have e:(65≤c∧c≤70)↔(65≤(c.toNat:Int)∧(c.toNat:Int)≤70):=by
  rw[UInt8.le_iff_toNat_le,UInt8.le_iff_toNat_le];have f:(65:UInt8).toNat=65:=rfl;have g:(70:UInt8).toNat=70:=rfl;omega
 simp only[d,e]
theorem jJ{a b:Int}(h:a=b):Value.int .i32 a=.int .i32 b:=by rw[h]
theorem ak{a b:Int}(h:a=b):Value.int .i64 a=.int .i64 b:=by rw[h]
theorem lm{c:UInt8}{o:Option Nat}(h:bG c=o)(t:List UInt8):gn (c :: t)=o.map fun v=>(v,t):=by simp only[gn,h]
theorem vg(W:World)(rb:Nat)(s:ByteArray)(k d:Nat)(w:World)(hr:St W w rb s k d):
  Calls prog 285 #[.pointer (some ⟨rb,0,none⟩)] w fun e w'=>
   Res W rb s d w (gn (ah s k)) (fun _ x v=>v=.int .i32 (x:Int)) e w':=by
 have A:=hr.sz
 cases hl:ah s k with
 |nil=>
  have y:k=s.size:=by
   have:=hr.le;rcases Nat.lt_or_ge k s.size with h | h
   ·rw[bn h]at hl;cases hl
   ·omega
  clear hl;go_enter func285,ntmps285;go_wp2_with fail
  refine (nu W rb s k d _ hr y).mono ?_;rintro e w1 ⟨a,b⟩;obtain⟨q,B,g,j,rfl,r⟩:=b;exact⟨rfl,a,q,B,g,j,rfl,r⟩
 |cons c t=>
  obtain⟨m,_,g3,g4⟩:=ek hl;have n:=g4 m;have H:=ae (An g3 n);clear hl g3 g4 n;have K:c.toNat < 256:=c.toNat_lt;go_enter func285,ntmps285;go_wp2_with fail
  refine (dw W rb s k d _ hr m).mono ?_;rintro e w1 ⟨rfl,a,b⟩;rw[H.o.2];have z:=a.le;obtain⟨C,D,F,f1,f2,J⟩:=a.rdr.facts;obtain⟨j,L,u⟩:=a.err 25 (by decide) (by decide)
  cases hdg:aW c with
  |true=>
   obtain⟨l,G,I⟩:=jG hdg;have E:=ae (An l hdg);clear l hdg;go_wp2_with fail
   refine (eS _ c).mono ?_;rintro e w2 ⟨rfl,rfl⟩;rw[E.o.2];go_wp2;go_ret;refine⟨b, ?_⟩;simp only[gn,E.o.1,Option.map_some];exact⟨_,_,rfl,jJ (by omega),a,H.o.1⟩
  |false=>
   have E:=ae (An (wX hdg) hdg);clear hdg;go_wp2_with fail
   refine (eS _ c).mono ?_;rintro e w2 ⟨rfl,rfl⟩;rw[E.o.2];go_wp2_with (go_at_call 111;refine (cV rb s (k+1) d _ a.rdr _ _).mono ?_;rintro e w' ⟨rfl,rfl⟩)
   all_goals
    by_cases i:97≤(c.toNat:Int)∧(c.toNat:Int)≤102
    ·have f:=E.o.1.trans (if_pos i)
     first
      | (exfalso;omega)
      | (go_ret;exact aU (lm f t) b (jJ (by omega)) a H.o.1)
    ·by_cases p:65≤(c.toNat:Int)∧(c.toNat:Int)≤70
     ·have f:=E.o.1.trans ((if_neg i).trans (if_pos p))
      first
       | (exfalso;omega)
       | (go_ret;exact aU (lm f t) b (jJ (by omega)) a H.o.1)
     ·have f:=E.o.1.trans ((if_neg i).trans (if_neg p))
      first
       | (exfalso;omega)
       |exact⟨rfl,aX (lm f t) (bL b u)⟩
def iE:Nat→Nat→List UInt8→Option (Nat×List UInt8)
 |0,x,l=>some (x,l)
 |n+1,x,l=>match gn l with | none=>none | some (v,t)=>iE n (x*16+v) t
theorem DY(l:List UInt8):iE 4 0 l=cI l:=by
 rcases l with _ | ⟨a,_ | ⟨b,_ | ⟨c,_ | ⟨e,t⟩⟩⟩⟩
 ·simp[iE,gn,cI]
 ·cases ha:bG a <;> simp[iE,gn,cI,ha]
 ·cases ha:bG a <;> cases hb:bG b <;> simp[iE,gn,cI,ha,hb]
 ·cases ha:bG a <;> cases hb:bG b <;> cases hc:bG c <;> simp[iE,gn,cI,ha,hb,hc]
 ·cases ha:bG a <;> cases hb:bG b <;> cases hc:bG c <;> cases he:bG e <;> simp[iE,gn,cI,ha,hb,hc,he]
theorem gp{c:UInt8}{v:Nat}(h:bG c=some v):v < 16:=by
 have i:=c.toNat_lt;unfold bG at h
 repeat' split at h
 all_goals first | (simp at h;done) | skip
 all_goals
  rename_i p;rw[UInt8.le_iff_toNat_le,UInt8.le_iff_toNat_le]at p;simp only[Option.some.injEq]at h;have a:(48:UInt8).toNat=48:=rfl;have b:(57:UInt8).toNat=57:=rfl;have d:(97:UInt8).toNat=97:=rfl;have e:(102:UInt8).toNat=102:=rfl;have f:(65:UInt8).toNat=65:=rfl;have g:(70:UInt8).toNat=70:=rfl;omega
theorem y8{l r:List UInt8}{v:Nat}(h:gn l=some (v,r)):v < 16:=by
 unfold gn at h;split at h
 ·cases h
 ·simp only[Option.map_eq_some_iff,Prod.mk.injEq]at h
  obtain⟨x,a,rfl,_⟩:=h;exact gp a
theorem lh(W:World)(rb:Nat)(s:ByteArray)(k d:Nat)(w:World)(hr:St W w rb s k d):
  Calls prog 270 #[.pointer (some ⟨rb,0,none⟩)] w fun e w'=>
   Res W rb s d w (cI (ah s k)) (fun _ x v=>v=.int .i32 (x:Int)) e w':=by
 rw[←DY];generalize ho:iE 4 0 (ah s k)=o;have u:=ae ho;clear ho;go_enter func270,ntmps270;go_wp2_with fail
 go_loopg [3,4] 4 (fun n a i wr=>∃(x k':Nat),n≤4∧x < 16 ^ (4 - n)∧a=.int .i32 (x:Int)∧i=.int .i64 (4 - n:Int)∧St W wr rb s k' d∧Kp (· =rb) w wr∧iE n x (ah s k')=o)
 case atStart=>exact⟨0,k,by omega,by decide,rfl,rfl,hr,Kp.refl _ _,u.o⟩
 case round=>
  obtain⟨x,k',D,G,rfl,rfl,l,c,m⟩:=hrel;have H:=ae m;clear m;rcases gk with _ | n
  ·have f:decide (((4:Int) - (0:Nat)) < 4)=false:=by decide
   have e:=H.o;simp only[iE]at e;have E:=ae e;clear e;go_wp2;go_ret;exact aU E.o.symm c rfl l rfl
  ·have f:decide (((4:Int) - ((n+1:Nat):Int)) < 4)=true:=by simp;omega
   have B:x < 4096:=by
    have:(16:Nat) ^ (4 - (n+1))≤16 ^ 3:=Nat.pow_le_pow_right (by omega) (by omega);omega
   go_wp2_with fail
   refine (vg W rb s k' d _ l).mono ?_;rintro e w1 ⟨j,b⟩;have e:=H.o;simp only[iE]at e
   cases hx1:gn (ah s k') with
   |none=>
    rw[hx1]at b e;obtain⟨A,h,g,y,rfl,q⟩:=b;exact⟨rfl,aX e.symm ⟨c.trans j,A,h,g,y,rfl,Nat.le_trans c.size q.1,q.2⟩⟩
   |some p=>
    obtain⟨v,r⟩:=p;rw[hx1]at b e;obtain⟨_,h,rfl,rfl,C,t⟩:=b;have F:=y8 hx1;have E:=ae (An e t);clear e t hx1;go_wp2;go_roundg n
    case measure=>omega
    case rel=>
     refine⟨x*16+v,h,by omega, ?_,jJ (by omega),ak (by omega),C,c.trans j,by rw[E.o.2];exact E.o.1⟩;have z:4 - n=(4 - (n+1))+1:=by omega
     rw[z,Nat.pow_succ];omega
def lI(x:Int):Bool:=decide (56320≤x) && decide (x≤57343)
def ol(x:Int):Bool:=decide (55296≤x) && decide (x≤56319)
theorem jL(w:World)(x:Int):Calls prog 271 #[.int .i32 x] w fun e w'=>e=.returned (.bool (lI x))∧w=w':=by
 go_enter func271,ntmps271;go_wp2
 all_goals
  go_ret;refine⟨?_,rfl⟩;unfold lI
  first | (simp[*];done) | (simp[*];omega)
theorem rj(w:World)(x:Int):Calls prog 272 #[.int .i32 x] w fun e w'=>e=.returned (.bool (ol x))∧w=w':=by
 go_enter func272,ntmps272;go_wp2
 all_goals
  go_ret;refine⟨?_,rfl⟩;unfold ol
  first | (simp[*];done) | (simp[*];omega)
def b9(a b:List UInt8):Bool:=a.take b.length == b
theorem mD(w:World)(a b:ByteArray)(_ha:a.size≤600)(_hb:b.size≤600)(bb:Bool)(hbb:b9 a.data.toList b.data.toList=bb):
  Calls prog 246 #[.string a,.string b] w fun e w'=>e=.returned (.bool bb)∧w'=w:=by
 subst hbb;have c:a.data.toList.length=a.size:=by simp
 have lb:b.data.toList.length=b.size:=by simp
 have L:=ae (An c lb);clear c lb;by_cases h:b.size≤a.size
 ·go_enter func246,ntmps246
  go_wp2;go_ret;refine⟨?_,rfl⟩;show Ending.returned (.bool ((a.extract 0 b.size).toList == b.toList))=_
  rw[Lib.toList_data,Lib.toList_data,Lib.extract_data,b9,L.o.2];rfl
 ·go_enter func246,ntmps246
  go_wp2;go_ret;refine⟨?_,rfl⟩
  have:b9 a.data.toList b.data.toList=false:=by
   unfold b9;rw[beq_eq_false_iff_ne];intro e;have:=congrArg List.length e;rw[List.length_take,L.o.1,L.o.2]at this;omega
  rw[this];rfl
theorem cO(W:World)(rb:Nat)(s:ByteArray)(k d:Nat)(w:World)(hr:St W w rb s k d)(p:ByteArray)(hp:p.size≤5)(bb:Bool)(hbb:b9 (ah s k) p.data.toList=bb):
  Calls prog 211 #[.pointer (some ⟨rb,0,none⟩),.string p] w fun e w'=>
   e=.returned (.bool bb)∧Kp (· =rb) w w'∧∃k',St W w' rb s k' d∧ah s k'=if bb then (ah s k).drop p.size else ah s k:=by
 have g:=hr.sz;have f:=hr.le;obtain⟨h,i,j,f1,f2,n⟩:=hr.rdr.facts;have a:b9 (s.extract k s.size).data.toList p.data.toList=bb:=by rw[Lib.extract_to_end];exact hbb
 have b:(s.extract k s.size).size≤600:=by
  have:(s.extract k s.size).size=(s.extract k s.size).data.toList.length:=by simp
  rw[this,Lib.extract_to_end,List.length_drop];simp;omega
 have E:=ae (An a hbb);clear a hbb
 cases bb with
 |false=>
  go_enter func211,ntmps211;go_wp2;go_quiet ((go_at_call 246;exact Calls.quiet_of_same (mD _ _ _ b (by omega) false E.o.1)))
  go_wp2;go_ret;exact⟨rfl,(Kp.refl _ _).drewN _,k,hr.drewN _,rfl⟩
 |true=>
  have c:k+p.size≤s.size:=by
   have:=E.o.2;unfold b9 at this;have:=congrArg List.length (eq_of_beq this);rw[List.length_take]at this;have l:(ah s k).length=s.size - k:=by simp[ah]
   have m:p.data.toList.length=p.size:=by simp
   omega
  go_enter func211,ntmps211;go_wp2;go_quiet ((go_at_call 246;exact Calls.quiet_of_same (mD _ _ _ b (by omega) true E.o.1)))
  go_wp2;go_ret;refine⟨rfl,Kp.setCell (p:=⟨rb,1,none⟩) ((Kp.refl (· =rb) _).drewN _) (fun _=>rfl) _,k+p.size,(hr.drewN _).at (k+p.size) c, ?_⟩;simp[ah,List.drop_drop]
theorem re{l r:List UInt8}{x:Nat}(h:cI l=some (x,r)):x < 65536:=by
 unfold cI at h;split at h
 ·simp only[Option.bind_eq_some_iff,Option.map_eq_some_iff,Prod.mk.injEq]at h
  obtain⟨_,a,_,a2,_,a3,_,a4,rfl,_⟩:=h;have:=gp a;have:=gp a2;have:=gp a3;have:=gp a4;omega
 ·cases h
theorem Au{l:List UInt8}(h:b9 l [92,117]=true):∃q,l=92 :: 117 :: q:=by
 unfold b9 at h;rcases l with _ | ⟨a,_ | ⟨b,q⟩⟩
 ·simp at h
 ·simp at h
 ·simp at h
  obtain⟨rfl,rfl⟩:=h;exact⟨q,rfl⟩
theorem yU{l r:List UInt8}{x:Nat}(h:cI l=some (x,r))(h1:55296≤x)(h2:x≤56319)(hb:b9 r [92,117]=false):dJ l=none:=by
 simp only[dJ,h];rw[if_neg (by omega),if_neg (by omega)];split
 ·rename_i a b q
  split
  ·rename_i hc
   obtain⟨rfl,rfl⟩:=hc;simp[b9]at hb
  ·rfl
 ·rfl
theorem wK{l r:List UInt8}{x:Nat}(h:cI l=some (x,r))(h1:55296≤x)(h2:x≤56319)(hb:b9 r [92,117]=true)(hy:cI (r.drop 2)=none):dJ l=none:=by
 obtain⟨q,rfl⟩:=Au hb;simp only[List.drop_succ_cons,List.drop_zero]at hy;simp only[dJ,h];rw[if_neg (by omega),if_neg (by omega)];simp[hy]
theorem pR{l r z:List UInt8}{x y:Nat}(h:cI l=some (x,r))(h1:55296≤x)(h2:x≤56319)(hb:b9 r [92,117]=true)(hy:cI (r.drop 2)=some (y,z)):
  dJ l=if 56320≤y∧y≤57343 then some (65536+(x - 55296)*1024+(y - 56320),z) else none:=by
 obtain⟨q,rfl⟩:=Au hb;simp only[List.drop_succ_cons,List.drop_zero]at hy;simp only[dJ,h];rw[if_neg (by omega),if_neg (by omega)];simp[hy]
theorem yi(W:World)(rb:Nat)(s:ByteArray)(k d:Nat)(w:World)(hr:St W w rb s k d):
  Calls prog 245 #[.pointer (some ⟨rb,0,none⟩)] w fun e w'=>
   Res W rb s d w (dJ (ah s k)) (fun _ x v=>v=.int .i32 (x:Int)) e w':=by
 go_enter func245,ntmps245;go_wp2_with fail
 refine (lh W rb s k d _ hr).mono ?_;rintro e w1 ⟨a,u⟩
 cases hx:cI (ah s k) with
 |none=>
  rw[hx]at u;have:dJ (ah s k)=none:=by simp only[dJ,hx]
  obtain⟨D,c,g,i,rfl,q⟩:=u;exact⟨rfl,aX this ⟨a,D,c,g,i,rfl,q⟩⟩
 |some p=>
  obtain⟨x,r⟩:=p;rw[hx]at u;obtain⟨_,c,rfl,rfl,f,K⟩:=u;have E:=ae (An hx K);clear hx K;obtain⟨i,J,n⟩:=f.err 27 (by decide) (by decide)
  cases hlow:lI x with
  |true=>
   have L:=ae hlow;clear hlow;go_wp2_with fail
   refine (jL _ _).mono ?_;rintro e w2 ⟨rfl,rfl⟩;rw[L.o];go_wp2_with (go_at_call 111;refine (cV rb s c d _ f.rdr _ _).mono ?_;rintro e w' ⟨rfl,rfl⟩)
   refine⟨rfl,aX ?_ (bL a n)⟩;have h:=L.o;simp only[lI,Bool.and_eq_true,decide_eq_true_eq]at h;simp only[dJ,E.o.1];rw[if_neg (by omega),if_pos (by omega)]
  |false=>
   have L:=ae hlow;clear hlow;have R:=f.le;have S:=f.sz
   have T:(x:Int) < 65536:=by
    have:=re E.o.1;omega
   cases hhigh:ol x with
   |false=>
    have l:=ae hhigh;clear hhigh;go_wp2_with fail
    refine (jL _ _).mono ?_;rintro e w2 ⟨rfl,rfl⟩;rw[L.o];go_wp2_with fail
    refine (rj _ _).mono ?_;rintro e w2 ⟨rfl,rfl⟩;rw[l.o];go_wp2;go_ret;refine aU ?_ a rfl f E.o.2;have h:=L.o;have b:=l.o;simp only[lI,ol,Bool.and_eq_false_iff,decide_eq_false_iff_not]at h b;simp only[dJ,E.o.1];rw[if_pos (by omega)]
   |true=>
    have l:=ae hhigh;clear hhigh
    have F:55296≤(x:Int)∧(x:Int)≤56319:=by
     have b:=l.o;simpa[ol] using b
    obtain⟨N,O⟩:=F;go_wp2_with fail
    refine (jL _ _).mono ?_;rintro e w2 ⟨rfl,rfl⟩;rw[L.o];go_wp2_with fail
    refine (rj _ _).mono ?_;rintro e w2 ⟨rfl,rfl⟩;rw[l.o]
    cases hbg:b9 (ah s c) [92,117] with
    |false=>
     have B:=ae hbg;clear hbg;go_wp2_with fail
     refine (cO W rb s c d _ f ⟨#[92,117]⟩ (by decide) false B.o).mono ?_;rintro e w2 ⟨rfl,j,A,t2,t3⟩;obtain⟨i,J,n⟩:=t2.err 27 (by decide) (by decide);go_wp2_with (go_at_call 111;refine (cV rb s A d _ t2.rdr _ _).mono ?_;rintro e w' ⟨rfl,rfl⟩)
     refine⟨rfl,aX ?_ (bL (a.trans j) n)⟩;exact yU E.o.1 (by omega) (by omega) (by rw[←E.o.2];exact B.o)
    |true=>
     have B:=ae hbg;clear hbg;go_wp2_with fail
     refine (cO W rb s c d _ f ⟨#[92,117]⟩ (by decide) true B.o).mono ?_;rintro e w2 ⟨rfl,j,A,t2,t3⟩;have M:Hid (ah s A=(ah s c).drop 2):=t3;clear t3;go_wp2_with fail
     refine (lh W rb s A d _ t2).mono ?_;rintro e w3 ⟨I,v2⟩;rw[M.o,E.o.2]at v2;have C:Hid (b9 r [92,117]=true):=by rw[←E.o.2];exact B.o
     cases hy:cI (r.drop 2) with
     |none=>
      rw[hy]at v2;obtain⟨D,H,g,i,rfl,q⟩:=v2;exact⟨rfl,aX (wK E.o.1 (by omega) (by omega) C.o hy) ⟨(a.trans j).trans I,D,H,g,i,rfl,Nat.le_trans (a.trans j).size q.1,q.2⟩⟩
     |some p=>
      obtain⟨y,z⟩:=p;rw[hy]at v2;obtain⟨_,H,rfl,rfl,u1,u2⟩:=v2;have t:=ae (An hy u2);clear hy u2
      have U:(y:Int) < 65536:=by
       have:=re t.o.1;omega
      obtain⟨i,J,n⟩:=u1.err 27 (by decide) (by decide)
      cases hl2:lI y with
      |false=>
       have m:=ae hl2;clear hl2;go_wp2_with fail
       refine (jL _ _).mono ?_;rintro e w2 ⟨rfl,rfl⟩;rw[m.o];go_wp2_with (go_at_call 111;refine (cV rb s H d _ u1.rdr _ _).mono ?_;rintro e w' ⟨rfl,rfl⟩)
       refine⟨rfl,aX ?_ (bL ((a.trans j).trans I) n)⟩;have b:=m.o;simp only[lI,Bool.and_eq_false_iff,decide_eq_false_iff_not]at b;exact (pR E.o.1 (by omega) (by omega) C.o t.o.1).trans (if_neg (by omega))
      |true=>
       have m:=ae hl2;clear hl2
       have G:56320≤(y:Int)∧(y:Int)≤57343:=by
        have b:=m.o;simpa[lI] using b
       obtain⟨P,Q⟩:=G;go_wp2_with fail
       refine (jL _ _).mono ?_;rintro e w2 ⟨rfl,rfl⟩;rw[m.o];go_wp2;go_ret;refine aU ((pR E.o.1 (by omega) (by omega) C.o t.o.1).trans (if_pos (by omega))) ((a.trans j).trans I) (jJ ?_) u1 t.o.2;omega
end
end Go.Proofs.YtocligpfmfmihaaGreatDoor
