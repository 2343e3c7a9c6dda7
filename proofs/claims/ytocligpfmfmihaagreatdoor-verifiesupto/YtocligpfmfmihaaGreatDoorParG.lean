import Derived.Test.YtocligpfmfmihaaGreatDoorVal2G
import Derived.Defers
import Derived.Recover
import Derived.Lib.MapLaws
import Derived.Lib.TrimUEq
set_option maxHeartbeats 1000000
set_option maxRecDepth 20000
namespace Go.Proofs.YtocligpfmfmihaaGreatDoor
open Go.Proofs.Tryz
section
open Go Go.RowKit Go.Maps Go.WideMaps
structure GL(W:World):Prop where
 glob:Glob W
 tabs:Lib.Utf8Tabs 4 5 W
 pow:Lib.TabBelow prog W.heap.size W "internal/strconv.uint64pow10" .u64 Lib.pow10Tab
theorem GL.tabs'{W w:World}(h:GL W)(ho:Below W.heap.size W w):Lib.Utf8Tabs 4 5 w:=by
 have a:=h.glob.sz;refine⟨fun c hc=> ?_,fun i hi=>⟨?_, ?_⟩⟩
 ·rw[ho.cell (p:=⟨_,c,none⟩) (by show 4 < _;omega)];exact h.tabs.1 c hc
 ·rw[ho.cell (p:=⟨_,2*i,none⟩) (by show 5 < _;omega)];exact (h.tabs.2 i hi).1
 ·rw[ho.cell (p:=⟨_,2*i+1,none⟩) (by show 5 < _;omega)];exact (h.tabs.2 i hi).2
def ir(W w:World)(fb:Nat):Prop:=∃(k:Int) (g:Nat) (cb:Addr),w.heap[fb]? =some (.cells #[.int .i64 k,ax cb] 239)∧mN W g cb
theorem qO(s:ByteArray)(k:Nat)(h:k < s.size):Lib.decodeGo (s.extract k s.size)=Lib.decodeL (ah s k):=by
 have a:(s.extract k s.size).data.toList=ah s k:=Lib.extract_to_end s k
 have b:¬(s.extract k s.size).size=0:=by
  have:(s.extract k s.size).size=(s.extract k s.size).data.toList.length:=by rw[Array.length_toList];rfl
  rw[this,a,ah,List.length_drop];simp;omega
 unfold Lib.decodeGo;rw[if_neg b,←Lib.decodeL_drop,a,List.drop_zero]
def Ee(W w:World)(l:List UInt8)(e:Ending)(w':World):Prop:=
 Kp (fun _=>False) w w'∧((Lib.validD l=true∧e=.returned .nilIface)∨(Lib.validD l=false∧∃fb,e=.returned (.iface 116 (.pointer (some ⟨fb,0,none⟩)))∧w.heap.size≤fb∧ir W w' fb))
theorem am{W w w':World}(ho:Below W.heap.size W w)(h1:Kp (fun _=>False) w w'):Below W.heap.size W w':=
 ho.trans ⟨h1.os,h1.tape,h1.output,h1.size,fun i hi=>h1.block i (Nat.lt_of_lt_of_le hi ho.size) (by simp)⟩
theorem Glob.err{W w:World}(h:Glob W)(ho:Below W.heap.size W w)(g:Nat)(hm:g ∈ [20,23,24,25,21,12,22,8,19,27,18,10])(hg:g < 31):
  ∃a,w.cell? ⟨g,0,none⟩=some (.iface 415 (.pointer (some a)))∧mN W g a:=by
 obtain⟨a,b⟩:=h.val g hm;exact⟨a,(ho.cell (p:=⟨g,0,none⟩) (by have:=h.sz;show g < _;omega)).trans b.1,b⟩
theorem jE(W:World)(hG:GL W)(s:ByteArray)(hs:s.size≤9223372036854775807)(w:World)(ho:Below W.heap.size W w):
  Calls prog 74 #[.string s] w fun e w'=>Ee W w s.data.toList e w':=by
 go_enter func74,ntmps74;go_wp2_with fail
 go_loopg [3] s.size (fun g a wr=>∃k:Nat,g=s.size - k∧k≤s.size∧a=.int .i64 (k:Int)∧Kp (fun _=>False) w wr∧Lib.validD (ah s k)=Lib.validD s.data.toList)
 case atStart=>exact⟨0,rfl,by omega,rfl,Kp.refl _ _,by simp[ah]⟩
 case round=>
  obtain⟨k,y,K,rfl,x,E⟩:=hrel;have A:=ae (An y E);clear y E;by_cases t:k < s.size
  ·have u:decide ((k:Int) < (s.size:Int))=true:=by simp;omega
   have z:Below W.heap.size W wr:=am ho x;go_wp2_with fail
   refine (Tryz.utf8_DecodeRuneInString _ _ (hG.tabs' z)).mono ?_;rintro e w2 ⟨rfl,m⟩;have p:Kp (fun _=>False) w w2:=x.trans ⟨m.os,m.tape,m.output,m.size,fun i hi _=>m.block i hi⟩;rw[qO s k t];have l:ah s k≠[]:=by rw[bn t];simp
   have b:=Lib.validD_step (ah s k) l;have C:=Lib.decodeL_width (ah s k);have v:=Lib.decodeL_le (ah s k) l;have f:(ah s k).length=s.size - k:=by simp[ah]
   have d:∀n,(ah s k).drop n=ah s (k+n):=fun n=>by simp[ah,List.drop_drop]
   generalize Lib.decodeL (ah s k)=dd at *;obtain⟨r,n⟩:=dd;simp only at b C v;rw[f]at v;have B:=ae (An b (d n));clear b d l f m;by_cases c:r=65533∧n=1
   ·obtain⟨rfl,rfl⟩:=c
    obtain⟨F,y,G⟩:=hG.glob.err (am ho p) 10 (by decide) (by decide);go_wp2;go_ret;refine⟨p.alloc _,Or.inr ⟨by rw[←A.o.2,B.o.1];simp,w2.heap.size,rfl,p.size,(k:Int),10,F, ?_,G⟩⟩;exact heap_alloc_new w2 _
   ·have D:=ae c
    have q:Lib.validD (ah s (k+n))=Lib.validD s.data.toList:=by rw[←A.o.2,B.o.1,if_neg D.o,B.o.2]
    have FI:=ae q;clear c q;by_cases j:r=65533
    ·have H:((n:Int) == 1)=false:=by
      have:n≠1:=fun h=>D.o ⟨j,h⟩
      simp;omega
     subst j;go_wp2;go_roundg (s.size - (k+n))
     case measure=>rw[A.o.1];omega
     case rel=>exact⟨k+n,rfl,by omega,ak (by omega),p,FI.o⟩
    ·have I:((r:Int) == 65533)=false:=by simp;omega
     have J:¬(r:Int)=65533:=by omega
     clear j;go_wp2;go_roundg (s.size - (k+n))
     case measure=>rw[A.o.1];omega
     case rel=>exact⟨k+n,rfl,by omega,ak (by omega),p,FI.o⟩
  ·have u:decide ((k:Int) < (s.size:Int))=false:=by simp;omega
   go_wp2;go_ret;refine⟨x,Or.inl ⟨?_,rfl⟩⟩;rw[←A.o.2,dx (by omega)];rfl
theorem qJ(q:Addr)(w:World):(Instr.typeAssert (.iface 116 (.pointer (some q))) 20 116 true).run prog w=.ok (.tuple #[.pointer (some q),.bool true]) w:=by kernel_rfl
theorem yM(w:World)(p q:Addr):Calls prog 108 #[.pointer (some p),.iface 116 (.pointer (some q))] w fun e w'=>e=.returned (.pointer (some q))∧w=w':=by
 have a:=qJ q;go_enter func108,ntmps108;go_wp2;go_ret;exact⟨rfl,rfl⟩
theorem nJ(pr pv pe:Nat)(rp q:Addr)(w:World)(h0:w.cell? ⟨pr,0,none⟩=some (.pointer (some rp)))(v1 v2:Value)(h1:w.cell? ⟨pv,0,none⟩=some v1)(f1:w.frozen? ⟨pv,0,none⟩=false)
  (h2:w.cell? ⟨pe,0,none⟩=some v2) (f2:w.frozen? ⟨pe,0,none⟩=false) (hne:pv≠pe) :
  CallsD prog 107 #[.pointer (some ⟨pr,0,none⟩),.pointer (some ⟨pv,0,none⟩),.pointer (some ⟨pe,0,none⟩)] (.panicking [{ v:=.iface 116 (.pointer (some q)),recovered:=false }]) w fun e u' w'=>
   e=.returned (.tuple #[])∧u'=.panicking [{ v:=.iface 116 (.pointer (some q)),recovered:=true }]∧w'=(w.setCell ⟨pv,0,none⟩ .nilIface).setCell ⟨pe,0,none⟩ (.iface 116 (.pointer (some q))):=by
 refine callsD_of_wpS func107 rfl fun c₀ cs hu=> ?_
 apply wpS_seq;apply wpS_region;simp[wpOpsS,go_sem,recoverD,hu,ntmps107,Exit.thenS];refine wpS_of_wp ?_;go_wp2_with (go_at_call 108;refine (yM _ rp q).mono ?_;rintro e w' ⟨rfl,rfl⟩)
 exact⟨rfl,_,rfl,.tuple #[],by simp[results,results107],rfl,rfl,rfl⟩
theorem uV(a b c:Value)(w:World):
  CallsD prog 107 #[a,b,c] .returning w fun e u' w'=>e=.returned (.tuple #[])∧u'=.returning∧w'=w:=by
 refine callsD_of_wpS func107 rfl fun c₀ cs hu=> ?_
 apply wpS_seq;apply wpS_region;simp[wpOpsS,go_sem,recoverD,hu,ntmps107,Exit.thenS];refine wpS_of_wp ?_;go_wp2;refine⟨rfl,.returning, ?_,.tuple #[],by simp[results,results107],rfl,rfl,rfl⟩;cases c₀
 simp_all
def uU(W w:World)(l:List UInt8)(e:Ending)(w':World):Prop:=
 Kp (fun _=>False) w w'∧((∃j v,dk l=some j∧e=.returned (.tuple #[v,.nilIface])∧Rep w' (fun b=>w.heap.size≤b∧b < w'.heap.size) j v) ∨
   (dk l=none∧∃fb,e=.returned (.tuple #[.nilIface,.iface 116 (.pointer (some ⟨fb,0,none⟩))])∧w.heap.size≤fb∧ir W w' fb))
theorem gE(w:World)(a b:Obj):((w.alloc a).alloc b).heap[w.heap.size]? =some a∧((w.alloc a).alloc b).heap[w.heap.size+1]? =some b:=by
 constructor
 ·rw[Below.heap_alloc _ _ _ (by simp)]
  exact heap_alloc_new w a
 ·have:=heap_alloc_new (w.alloc a) b
  simpa using this
theorem pB{a b:Nat}{w2:World}{x y:Value}(hab:a≠b)(h1:w2.heap[a]? =some (.cells #[x] 59))(h2:w2.heap[b]? =some (.cells #[y] 61))(u v:Value):
  ((w2.setCell ⟨a,0,none⟩ u).setCell ⟨b,0,none⟩ v).heap[a]? =some (.cells #[u] 59)∧((w2.setCell ⟨a,0,none⟩ u).setCell ⟨b,0,none⟩ v).heap[b]? =some (.cells #[v] 61) ∧
  ∀k,k≠a→k≠b→((w2.setCell ⟨a,0,none⟩ u).setCell ⟨b,0,none⟩ v).heap[k]? =w2.heap[k]? :=by
 refine⟨?_, ?_, ?_⟩
 ·rw[af (by show a≠b;exact hab)];exact d8 h1 u
 ·exact d8 (by rw[af (by show b≠a;exact Ne.symm hab)];exact h2) v
 ·intro k c d
  rw[af d,af c]
theorem jy{a b:Nat}{w:World}{u v:Value}(tmps:Array Value)(ht2:tmps[2]?.getD undef=.pointer (some ⟨a,0,none⟩))(ht3:tmps[3]?.getD undef=.pointer (some ⟨b,0,none⟩))(h1:w.cell? ⟨a,0,none⟩=some u)(h2:w.cell? ⟨b,0,none⟩=some v):
  (results Tryz.f65 tmps).run prog w=.ok (.tuple #[u,v]) w:=by
 simp[results,results65,go_sem,h1,h2,ht2,ht3]
theorem xH(W:World)(hG:GL W)(s:ByteArray)(hs:s.size≤600)(w:World)(ho:Below W.heap.size W w)(hv:Lib.validD s.data.toList=false):
  Calls prog 65 #[.string s] w fun e w'=>uU W w s.data.toList e w':=by
 have d:=ae hv;clear hv;obtain⟨i,n2⟩:=gE w (.cells #[.nilIface] 59) (.cells #[.nilIface] 61);have f:Kp (fun _=>False) w ((w.alloc (.cells #[.nilIface] 59)).alloc (.cells #[.nilIface] 61)):=((Kp.refl _ _).alloc _).alloc _;have N:=ae (An i (An n2 f));clear i n2 f;go_enter_defers func65,ntmps65
 go_wp2_with fail
 refine (jE W hG s (by omega) _ (am ho N.o.2.2)).mono ?_;rintro e w2 ⟨a1,(⟨hv,_⟩ | ⟨_,fb,rfl,h1,h2⟩)⟩
 ·rw[d.o]at hv;cases hv
 have b:w2.heap[w.heap.size]? =some (.cells #[.nilIface] 59):=(a1.block _ (ag N.o.1) (by simp)).trans N.o.1;have c:w2.heap[w.heap.size+1]? =some (.cells #[.nilIface] 61):=(a1.block _ (ag N.o.2.1) (by simp)).trans N.o.2.1;obtain⟨t,f1⟩:=aj b;obtain⟨u,f2⟩:=aj c;have M:=ae (An b c);have a:=h1;simp at a;clear b c;go_wp2_with fail
 obtain⟨l,m,n⟩:=pB (by omega) M.o.1 M.o.2 .nilIface (.iface 116 (.pointer (some ⟨fb,0,none⟩)));refine⟨_,jy _ rfl rfl (aj l).1 (aj m).1, ?_⟩;refine⟨Kp.setCell (p:=⟨w.heap.size+1,0,none⟩) (Kp.setCell (p:=⟨w.heap.size,0,none⟩) (N.o.2.2.trans a1) (fun h=>by exact absurd h (by show ¬w.heap.size < _;omega)) _) (fun h=>by exact absurd h (by show ¬w.heap.size+1 < _;omega)) _,Or.inr ⟨by simp[dk,d.o],fb,rfl,by omega, ?_⟩⟩;obtain⟨k,g,j,q,r⟩:=h2;exact⟨k,g,j,(n fb (by omega) (by omega)).trans q,r⟩
theorem oJ(W w w5:World)(l:List UInt8)(pr:Nat)(rp:Addr)(fb:Nat)(tmps:Array Value)(x y:Value)(hp:dk l=none)
  (ht2:tmps[2]?.getD undef=.pointer (some ⟨w.heap.size,0,none⟩)) (ht3:tmps[3]?.getD undef=.pointer (some ⟨w.heap.size+1,0,none⟩))
  (h0:w5.cell? ⟨pr,0,none⟩=some (.pointer (some rp))) (h1:w5.heap[w.heap.size]? =some (.cells #[x] 59)) (h2:w5.heap[w.heap.size+1]? =some (.cells #[y] 61))
  (hk:Kp (fun _=>False) w w5) (hf:ir W w5 fb) (hfb:w.heap.size+1+1≤fb) :
  bodyPostD prog Tryz.f65 (fun e w'=>uU W w l e w') (.panic [{ v:=.iface 116 (.pointer (some ⟨fb,0,none⟩)),recovered:=false }])
   { tmps:=tmps,defers:=[{ target:=.fn (.func 107) #[.pointer (some ⟨pr,0,none⟩),.pointer (some ⟨w.heap.size,0,none⟩),.pointer (some ⟨w.heap.size+1,0,none⟩)],args:= #[] }] } w5:=by
 refine leaves_cons (f:=107) (args:= #[.pointer (some ⟨pr,0,none⟩),.pointer (some ⟨w.heap.size,0,none⟩),.pointer (some ⟨w.heap.size+1,0,none⟩)]) (by simp) (by simp[go_sem]) ?_;obtain⟨a,f1⟩:=aj h1;obtain⟨b,f2⟩:=aj h2;refine (nJ pr w.heap.size (w.heap.size+1) rp ⟨fb,0,none⟩ w5 h0 x y a f1 b f2 (by omega)).mono ?_;rintro e o w'' ⟨rfl,rfl,rfl⟩;obtain⟨d,i,j⟩:=pB (by omega) h1 h2 .nilIface (.iface 116 (.pointer (some ⟨fb,0,none⟩)));show Leaves _ _ _ _ [] (settle _) _
 simp only[settle];refine⟨_,jy _ ht2 ht3 (aj d).1 (aj i).1, ?_⟩;refine⟨Kp.setCell (p:=⟨w.heap.size+1,0,none⟩) (Kp.setCell (p:=⟨w.heap.size,0,none⟩) hk (fun h=>by exact absurd h (by show ¬w.heap.size < _;omega)) _) (fun h=>by exact absurd h (by show ¬w.heap.size+1 < _;omega)) _,Or.inr ⟨hp,fb,rfl,by omega, ?_⟩⟩;obtain⟨k,g,c,m,n⟩:=hf;exact⟨k,g,c,(j fb (by omega) (by omega)).trans m,n⟩
theorem vB(W:World)(hG:GL W)(s:ByteArray)(hs:s.size≤600)(w:World)(ho:Below W.heap.size W w)(hv:Lib.validD s.data.toList=true):
  Calls prog 65 #[.string s] w fun e w'=>uU W w s.data.toList e w':=by
 have HV:=ae hv;clear hv;obtain⟨B,n2⟩:=gE w (.cells #[.nilIface] 59) (.cells #[.nilIface] 61);have K1:Kp (fun _=>False) w ((w.alloc (.cells #[.nilIface] 59)).alloc (.cells #[.nilIface] 61)):=((Kp.refl _ _).alloc _).alloc _;have N:=ae (An B (An n2 K1));clear B n2 K1;have ap:∀(fn:Fn) (first cap:Array Value) (w:World),(Instr.makeFunc fn first cap).run prog w=.ok (.func fn first cap) w:=fun _ _ _ _=>rfl
 go_enter_defers func65,ntmps65
 go_wp2_with fail
 refine (jE W hG s (by omega) _ (am ho N.o.2.2)).mono ?_;rintro e w2 ⟨a1,(⟨hv,rfl⟩ | ⟨hv,_⟩)⟩;rotate_left
 ·rw[HV.o]at hv;cases hv
 have E:w2.heap[w.heap.size]? =some (.cells #[.nilIface] 59):=(a1.block _ (ag N.o.1) (by simp)).trans N.o.1;have F:w2.heap[w.heap.size+1]? =some (.cells #[.nilIface] 61):=(a1.block _ (ag N.o.2.1) (by simp)).trans N.o.2.1;have V:=N.o.2.2.trans a1;have ak:=a1.size;simp at ak;have M:=ae (An E F);clear E F hv;go_wp2_with fail
 obtain⟨n3,q⟩:=gE w2 (.cells #[.string s,.int .i64 0,.int .i64 0] 203) (.cells #[.pointer (some ⟨w2.heap.size,0,none⟩)] 201);have t:Kp (fun _=>False) w2 ((w2.alloc (.cells #[.string s,.int .i64 0,.int .i64 0] 203)).alloc (.cells #[.pointer (some ⟨w2.heap.size,0,none⟩)] 201)):=((Kp.refl _ _).alloc _).alloc _
 have S3:St W ((w2.alloc (.cells #[.string s,.int .i64 0,.int .i64 0] 203)).alloc (.cells #[.pointer (some ⟨w2.heap.size,0,none⟩)] 201)) w2.heap.size s 0 0:=
  ⟨hG.glob,am (am ho V) t,n3,Nat.le_trans ho.size V.size,Nat.zero_le _,hs⟩
 have E:=(t.block _ (ag M.o.1) (by simp)).trans M.o.1;have F:=(t.block _ (ag M.o.2) (by simp)).trans M.o.2;have r0:ah s 0=s.data.toList:=by simp[ah]
 refine (CQ W 6 0 rfl w2.heap.size s 0 _ S3).mono ?_;generalize hw3:(w2.alloc (.cells #[.string s,.int .i64 0,.int .i64 0] 203)).alloc (.cells #[.pointer (some ⟨w2.heap.size,0,none⟩)] 201)=w3 at *;rintro e a ⟨S,I⟩;rw[r0]at I;have ab:=ag E;have ac:=ag F;have ad:=ag q;have x:=(S.block _ ab (by omega)).trans E;have y:=(S.block _ ac (by omega)).trans F;have A:=(S.block _ ad (by omega)).trans q;have X:Kp (fun _=>False) w a:=(V.trans t).and S (fun i hi e=>by omega);have m:dk s.data.toList=iP false s.data.toList:=by simp[dk,HV.o]
 clear E F n3 q r0
 cases hp:az false (6 - 0) s.data.toList with
 |none=>
  rw[hp]at I;obtain⟨T,k9,g,Z,rfl,q1,q2,q3⟩:=I;refine oJ W w a s.data.toList (w2.heap.size+1) _ T _ _ _ ?_ rfl rfl (aj A).1 x y X ⟨k9,g,Z,q2,q3⟩ (by omega);rw[m,iP];rw[show az false 6 s.data.toList=none from hp]
 |some z=>
  obtain⟨j,r⟩:=z;rw[hp]at I;obtain⟨v,k4,rfl,g3,S4,g5⟩:=I;obtain⟨c,u,rfl⟩:=Rep.iface g3;have K:az false 6 s.data.toList=some (j,r):=hp;have G:=ae (An K (An g5 m));clear hp K g5 m hw3;obtain⟨ca,fa⟩:=aj x;obtain⟨cb,T⟩:=aj y;obtain⟨cp,fp⟩:=aj A;have B5:Kp (fun k=>k=w.heap.size) a (a.setCell ⟨w.heap.size,0,none⟩ (.iface c u)):=Kp.setCell (p:=⟨w.heap.size,0,none⟩) (Kp.refl (fun k=>k=w.heap.size) a) (fun _=>rfl) _;have Q:=S4.keep B5 (fun i hi=>by have:=ho.size;omega) (by omega);have B:(a.setCell ⟨w.heap.size,0,none⟩ (.iface c u)).heap[w.heap.size]? =some (.cells #[.iface c u] 59):=d8 x _;have n2:(a.setCell ⟨w.heap.size,0,none⟩ (.iface c u)).heap[w.heap.size+1]? =some (.cells #[.nilIface] 61):=by rw[af (by show w.heap.size+1≠w.heap.size;omega)];exact y
  have q:(a.setCell ⟨w.heap.size,0,none⟩ (.iface c u)).heap[w2.heap.size+1]? =some (.cells #[.pointer (some ⟨w2.heap.size,0,none⟩)] 201):=by rw[af (by show w2.heap.size+1≠w.heap.size;omega)];exact A
  have l:Rep (a.setCell ⟨w.heap.size,0,none⟩ (.iface c u)) (fun b=>w3.heap.size≤b∧b < a.heap.size) j (.iface c u):=Rep.frame (fun k hk=>af (by show k≠w.heap.size;omega)) j g3;have H:Kp (fun _=>False) w (a.setCell ⟨w.heap.size,0,none⟩ (.iface c u)):=Kp.setCell (p:=⟨w.heap.size,0,none⟩) X (fun h=>by exact absurd h (by show ¬w.heap.size < _;omega)) _;have C:(a.setCell ⟨w.heap.size,0,none⟩ (.iface c u)).heap.size=a.heap.size:=by simp[World.setCell]
  have Y:=ae (An B (An n2 (An q (An l (An Q (An H C))))));clear B n2 q l Q H C B5 x y A g3 X;go_wp2_with fail
  refine (gi W w2.heap.size s k4 0 _ Y.o.2.2.2.2.1).mono ?_;generalize hw5:a.setCell ⟨w.heap.size,0,none⟩ (.iface c u)=w5 at *;rintro e d ⟨rfl,D,P,R,d3⟩;obtain⟨B,n2,q,l,Q,H,C⟩:=Y.o;have p1:=(D.block _ (ag B) (by omega)).trans B;have p2:=(D.block _ (ag n2) (by omega)).trans n2;have p4:=(D.block _ (ag q) (by omega)).trans q;have K6:Kp (fun _=>False) w d:=H.and D (fun i hi e=>by omega);have an:=D.size;have g6:Rep d (fun b=>w3.heap.size≤b∧b < a.heap.size) j (.iface c u):=Rep.frame (fun k hk=>D.block k (by omega) (by omega)) j l;have D3:Hid (ah s P=sk r):=by rw[G.o.2.1]at d3;exact d3
  clear ca fa cb T cp fp B n2 q l Q H hw5 d3 Y;obtain⟨ca,fa⟩:=aj p1;obtain⟨cb,T⟩:=aj p2;obtain⟨cp,fp⟩:=aj p4;have n:=ae (An p1 (An p2 (An p4 g6)));clear p1 p2 p4 g6;obtain⟨c0,c1,c2,f1,f2,hb⟩:=R.rdr.facts;have ao:=R.le;by_cases ai:P < s.size
  ·have J:(P:Int) < (s.size:Int):=by omega
   have L:dk s.data.toList=none:=by
    rw[G.o.2.2,iP,G.o.1];have:sk r≠[]:=by rw[←D3.o,bn ai];simp
    simp[this]
   have U:=ae L;clear L;obtain⟨aa,hg,he⟩:=R.err 8 (by decide) (by decide);go_wp2_with fail
   go_quiet (fail)
   go_wp2_with (go_at_call 111;refine (cV w2.heap.size s P 0 _ (R.drewN _).rdr _ _).mono ?_;rintro e w' ⟨rfl,rfl⟩)
   have aq:=ag n.o.2.2.1;exact oJ W w _ _ (w2.heap.size+1) _ d.heap.size _ _ _ U.o rfl rfl (aj ((Below.heap_alloc (d.drewN nq) _ _ (ag n.o.2.2.1)).trans n.o.2.2.1)).1 ((Below.heap_alloc (d.drewN nq) _ _ (ag n.o.1)).trans n.o.1) ((Below.heap_alloc (d.drewN nq) _ _ (ag n.o.2.1)).trans n.o.2.1) ((K6.drewN nq).alloc _) ⟨_,_,aa,heap_alloc_new (d.drewN nq) _,he⟩ (by omega)
  ·have J:(s.size:Int)≤(P:Int):=by omega
   have O:dk s.data.toList=some j:=by
    rw[G.o.2.2,iP,G.o.1];have:sk r=[]:=by rw[←D3.o,dx (by omega)]
    simp[this]
   have U:=ae O;clear O;go_wp2_with fail
   go_quiet (fail)
   go_wp2;refine leaves_cons (f:=107) (args:= #[.pointer (some ⟨w2.heap.size+1,0,none⟩),.pointer (some ⟨w.heap.size,0,none⟩),.pointer (some ⟨w.heap.size+1,0,none⟩)]) (by simp) (by simp[go_sem]) ?_;refine (uV _ _ _ _).mono ?_;rintro e u' w'' ⟨rfl,rfl,rfl⟩;obtain⟨e1,e2,e3⟩:=pB (w2:=d.drewN nq) (by omega) n.o.1 n.o.2.1 (.iface c u) .nilIface;show Leaves _ _ _ _ [] (settle _) _
   simp only[settle];refine⟨_,jy _ rfl rfl (aj e1).1 (aj e2).1, ?_⟩;refine⟨Kp.setCell (p:=⟨w.heap.size+1,0,none⟩) (Kp.setCell (p:=⟨w.heap.size,0,none⟩) (K6.drewN nq) (fun h=>by exact absurd h (by show ¬w.heap.size < _;omega)) _) (fun h=>by exact absurd h (by show ¬w.heap.size+1 < _;omega)) _,Or.inl ⟨j,_,U.o,rfl, ?_⟩⟩;have al:(((d.drewN nq).setCell ⟨w.heap.size,0,none⟩ (.iface c u)).setCell ⟨w.heap.size+1,0,none⟩ .nilIface).heap.size=d.heap.size:=by simp[World.setCell]
   have g9:Rep (((d.drewN nq).setCell ⟨w.heap.size,0,none⟩ (.iface c u)).setCell ⟨w.heap.size+1,0,none⟩ .nilIface) (fun b=>w3.heap.size≤b∧b < a.heap.size) j (.iface c u):=by
    refine Rep.frame (w:=d) ?_ j n.o.2.2.2;intro k hk;exact e3 k (by omega) (by omega)
   refine Rep.mono ?_ j g9;intro k hk;rw[al];omega
theorem Cc(W:World)(hG:GL W)(s:ByteArray)(hs:s.size≤600)(w:World)(ho:Below W.heap.size W w):
  Calls prog 65 #[.string s] w fun e w'=>uU W w s.data.toList e w':=by
 cases hv:Lib.validD s.data.toList with
 |true=>exact vB W hG s hs w ho hv
 |false=>exact xH W hG s hs w ho hv
end
section
open Go Go.RowKit
structure Rs(W w:World)(rb:Nat)(s:ByteArray)(k:Nat)(bad:Bool):Prop where
 gl:GL W
 old:Below W.heap.size W w
 rdr:w.heap[rb]? =some (.cells #[.string s,.int .i64 k,.bool bad] 128)
 ge:W.heap.size≤rb
 sz:s.size≤600
 le:k≤s.size+9
 good:bad=false→k≤s.size
variable{W w w':World}{rb k:Nat}{s:ByteArray}{bad:Bool}
theorem Rs.facts(h:Rs W w rb s k bad):w.cell? ⟨rb,0,none⟩=some (.string s)∧w.cell? ⟨rb,1,none⟩=some (.int .i64 k)∧w.cell? ⟨rb,2,none⟩=some (.bool bad) ∧
  w.frozen? ⟨rb,1,none⟩=false∧w.frozen? ⟨rb,2,none⟩=false∧rb < w.heap.size:=by
 have a:=h.rdr;refine⟨?_, ?_, ?_, ?_, ?_,ag a⟩ <;> simp[World.cell?,World.frozen?,a]
theorem Rs.drewN(h:Rs W w rb s k bad)(n:Nat):Rs W (w.drewN n) rb s k bad:=⟨h.gl,below_drewN h.old n,h.rdr,h.ge,h.sz,h.le,h.good⟩
theorem Rs.at(h:Rs W w rb s k bad)(k':Nat)(h1:k'≤s.size+9)(h2:bad=false→k'≤s.size):Rs W (w.setCell ⟨rb,1,none⟩ (.int .i64 k')) rb s k' bad:=by
 refine⟨h.gl,h.old.setCell (p:=⟨rb,1,none⟩) h.ge _, ?_,h.ge,h.sz,h1,h2⟩;have:=h.rdr;simp[World.setCell,Array.getElem?_modify,this]
theorem Rs.turn(h:Rs W w rb s k bad)(b:Bool)(hb:b=false→k≤s.size):Rs W (w.setCell ⟨rb,2,none⟩ (.bool b)) rb s k b:=by
 refine⟨h.gl,h.old.setCell (p:=⟨rb,2,none⟩) h.ge _, ?_,h.ge,h.sz,h.le,hb⟩;have:=h.rdr;simp[World.setCell,Array.getElem?_modify,this]
theorem Rs.keep{S:Nat→Prop}(h:Rs W w rb s k bad)(hk:Kp S w w')(h1:∀i,S i→W.heap.size≤i)(h2:¬S rb):Rs W w' rb s k bad:=
 ⟨h.gl,h.old.trans ⟨hk.os,hk.tape,hk.output,hk.size,fun i hi=>hk.block i (Nat.lt_of_lt_of_le hi h.old.size) (fun hs=>by have:=h1 i hs;omega)⟩,(hk.block rb (ag h.rdr) h2).trans h.rdr,h.ge,h.sz,h.le,h.good⟩
theorem dP(h:Rs W w rb s k bad):
  Calls prog 124 #[.pointer (some ⟨rb,0,none⟩)] w fun e w'=>e=.returned (.int .u8 (nxt (ah s k)).toNat)∧∃n,w.drewN n=w':=by
 obtain⟨f,g,i,f1,f2,j⟩:=h.facts;have d:=h.sz;have c:=h.le;by_cases b:k < s.size
 ·have a:decide ((k:Int) < (s.size:Int))=true:=by simp;omega
  rw[bn b];go_enter func124,ntmps124;go_wp2;go_quiet (fail)
  go_wp2;go_quiet (fail)
  go_wp2;go_ret;simp only[World.drewN_drewN];exact⟨rfl,_,rfl⟩
 ·have a:decide ((k:Int) < (s.size:Int))=false:=by simp;omega
  rw[dx (by omega)];go_enter func124,ntmps124;go_wp2;go_quiet (fail)
  go_wp2;go_ret;exact⟨rfl,_,rfl⟩
theorem aV(h:Rs W w rb s k bad):
  Calls prog 123 #[.pointer (some ⟨rb,0,none⟩)] w fun e w'=>e=.returned (.tuple #[])∧Kp (· =rb) w w'∧∃k',Rs W w' rb s k' bad∧ah s k'=sk (ah s k):=by
 have z:=h.sz;go_enter func123,ntmps123;go_wp2
 go_loopg [] (s.size - k) (fun g wr=>∃k',g=s.size - k'∧Rs W wr rb s k' bad∧Kp (· =rb) w wr∧sk (ah s k')=sk (ah s k))
 case atStart=>exact⟨k,rfl,h,Kp.refl _ _,rfl⟩
 case round=>
  obtain⟨k',u,c,f,t⟩:=hrel;have A:=ae (An u t);clear u t;have y:=c.le;obtain⟨B,C,D,f1,f2,E⟩:=c.facts;by_cases v:k' < s.size
  ·have x:decide ((k':Int) < (s.size:Int))=true:=by simp;omega
   have i:=ae (ph s[k'])
   have step:gt s[k']=true→sk (ah s (k'+1))=sk (ah s k'):=fun hbl=>by
    rw[bn v];simp[sk,hbl]
   have a:gt s[k']=false→ah s k'=sk (ah s k'):=fun hbl=>by
    rw[bn v];simp[sk,hbl]
   by_cases l:((s[k'].toNat:Int) == 32)=true
   ·have S:=ae (step (by rw[i.o,l];rfl))
    clear step a;go_wp2;go_quiet (fail)
    go_wp2;go_roundg (s.size - (k'+1))
    case measure=>rw[A.o.1];omega
    case rel=>exact⟨k'+1,rfl,(c.drewN _).at (k'+1) (by omega) (fun _=>by omega),Kp.setCell (p:=⟨rb,1,none⟩) (f.drewN _) (fun _=>rfl) _,S.o.trans A.o.2⟩
   ·have b:=Bool.eq_false_iff.2 l
    by_cases m:((s[k'].toNat:Int) == 9)=true
    ·have S:=ae (step (by rw[i.o,b,m];rfl))
     clear step a;go_wp2;go_quiet (fail)
     go_wp2;go_roundg (s.size - (k'+1))
     case measure=>rw[A.o.1];omega
     case rel=>exact⟨k'+1,rfl,(c.drewN _).at (k'+1) (by omega) (fun _=>by omega),Kp.setCell (p:=⟨rb,1,none⟩) (f.drewN _) (fun _=>rfl) _,S.o.trans A.o.2⟩
    ·have d:=Bool.eq_false_iff.2 m
     by_cases n:((s[k'].toNat:Int) == 10)=true
     ·have S:=ae (step (by rw[i.o,b,d,n];rfl))
      clear step a;go_wp2;go_quiet (fail)
      go_wp2;go_roundg (s.size - (k'+1))
      case measure=>rw[A.o.1];omega
      case rel=>exact⟨k'+1,rfl,(c.drewN _).at (k'+1) (by omega) (fun _=>by omega),Kp.setCell (p:=⟨rb,1,none⟩) (f.drewN _) (fun _=>rfl) _,S.o.trans A.o.2⟩
     ·have j:=Bool.eq_false_iff.2 n
      by_cases q:((s[k'].toNat:Int) == 13)=true
      ·have S:=ae (step (by rw[i.o,b,d,j,q];rfl))
       clear step a;go_wp2;go_quiet (fail)
       go_wp2;go_roundg (s.size - (k'+1))
       case measure=>rw[A.o.1];omega
       case rel=>exact⟨k'+1,rfl,(c.drewN _).at (k'+1) (by omega) (fun _=>by omega),Kp.setCell (p:=⟨rb,1,none⟩) (f.drewN _) (fun _=>rfl) _,S.o.trans A.o.2⟩
      ·have r:=Bool.eq_false_iff.2 q
       have S:=ae (a (by rw[i.o,b,d,j,r];rfl));clear step a l m n q;go_wp2;go_quiet (fail)
       go_wp2;go_end0
       exact⟨rfl,f.drewN _,k',c.drewN _,S.o.trans A.o.2⟩
  ·have x:decide ((k':Int) < (s.size:Int))=false:=by simp;omega
   go_wp2;go_quiet (fail)
   go_wp2;go_end0
   exact⟨rfl,f.drewN _,k',c.drewN _,by have:=A.o.2;rw[dx (by omega)]at this ⊢;exact this⟩
theorem jX(s:ByteArray)(k n:Nat):(s.extract k (k+n)).data.toList=(ah s k).take n:=by
 unfold ah;simp[List.take_drop]
theorem em(h:Rs W w rb s k true)(t:ByteArray):
  Calls prog 125 #[.pointer (some ⟨rb,0,none⟩),.string t] w fun e w'=>e=.returned (.tuple #[])∧Kp (· =rb) w w'∧Rs W w' rb s k true:=by
 obtain⟨a,b,c,f1,f2,d⟩:=h.facts;go_enter func125,ntmps125;go_wp2;go_quiet (fail)
 go_wp2;refine bodyPost_ret (results_none rfl _ _ _) rfl ?_;exact⟨rfl,Kp.setCell (p:=⟨rb,2,none⟩) ((Kp.refl (· =rb) _).drewN _) (fun _=>rfl) _,(h.drewN _).turn true (fun e=>by cases e)⟩
end
section
open Go Go.RowKit Go.Maps
def ptr(b:Nat):Value:=.pointer (some ⟨b,0,none⟩)
def ar(kind:Nat)(n:Int)(t:Bs)(K L:Value):Obj:=.cells #[.int .u8 (kind:Int),.int .i64 n,.string ⟨t.toArray⟩,K,L] 80
inductive RR (w:World) (F:Nat→Prop):J→Nat→Prop
 |null {b:Nat} (hF:F b) (h:w.heap[b]? =some (ar 110 0 [] (.slice none 0 0) (.slice none 0 0))):RR w F .null b
 |tt {b:Nat} (hF:F b) (h:w.heap[b]? =some (ar 116 0 [] (.slice none 0 0) (.slice none 0 0))):RR w F (.bool true) b
 |ff {b:Nat} (hF:F b) (h:w.heap[b]? =some (ar 102 0 [] (.slice none 0 0) (.slice none 0 0))):RR w F (.bool false) b
 |num {b:Nat} (n:Int) (hn:n.natAbs≤9007199254740991) (hF:F b) (h:w.heap[b]? =some (ar 35 n [] (.slice none 0 0) (.slice none 0 0))):RR w F (.num n) b
 |str {b:Nat} (t:Bs) (hF:F b) (h:w.heap[b]? =some (ar 34 0 t (.slice none 0 0) (.slice none 0 0))):RR w F (.str t) b
 |arr {b:Nat} (x:List (J×Nat)) (L:Value) (hF:F b) (h:w.heap[b]? =some (ar 91 0 [] (.slice none 0 0) L))
   (hL:w.ownsRow 0 66 1 L x.length (x.map fun p=>ptr p.2)) (hG:∀k,L.ownBlock=some k→F k) (hx:∀j c,(j,c) ∈ x→RR w F j c):RR w F (.arr (x.map (·.1))) b
 |obj {b:Nat} (x:List (Bs×J×Nat)) (K L:Value) (hF:F b) (h:w.heap[b]? =some (ar 123 0 [] K L))
   (hK:w.ownsRow 0 9 1 K x.length (x.map fun p=>.string ⟨p.1.toArray⟩)) (hL:w.ownsRow 0 66 1 L x.length (x.map fun p=>ptr p.2.2))
   (hG:∀k,K.ownBlock=some k→F k) (hH:∀k,L.ownBlock=some k→F k) (hN:Nod (x.map fun p=>(p.1,p.2.1))) (hx:∀a j c,(a,j,c) ∈ x→RR w F j c):RR w F (.obj (ofL (x.map fun p=>(p.1,p.2.1)))) b
theorem RR.frame{w w':World}{F G:Nat→Prop}{j:J}{b:Nat}(h:RR w F j b)(hf:∀k,F k→w'.heap[k]? =w.heap[k]?)(hg:∀k,F k→G k):RR w' G j b:=by
 induction h with
 |null hF h=>exact .null (hg _ hF) ((hf _ hF).trans h)
 |tt hF h=>exact .tt (hg _ hF) ((hf _ hF).trans h)
 |ff hF h=>exact .ff (hg _ hF) ((hf _ hF).trans h)
 |num n hn hF h=>exact .num n hn (hg _ hF) ((hf _ hF).trans h)
 |str t hF h=>exact .str t (hg _ hF) ((hf _ hF).trans h)
 |arr x L hF h hL hG hx ih=>exact .arr x L (hg _ hF) ((hf _ hF).trans h) (ap hL fun k hk=>hf k (hG k hk)) (fun k hk=>hg k (hG k hk)) ih
 |obj x K L hF h hK hL hG hH hN hx ih=>
  exact .obj x K L (hg _ hF) ((hf _ hF).trans h) (ap hK fun k hk=>hf k (hG k hk)) (ap hL fun k hk=>hf k (hH k hk)) (fun k hk=>hg k (hG k hk)) (fun k hk=>hg k (hH k hk)) hN ih
theorem aw{w:World}{b kind:Nat}{n:Int}{t:Bs}{K L:Value}(h:w.heap[b]? =some (ar kind n t K L)):
  w.cell? ⟨b,0,none⟩=some (.int .u8 (kind:Int))∧w.cell? ⟨b,1,none⟩=some (.int .i64 n)∧w.cell? ⟨b,2,none⟩=some (.string ⟨t.toArray⟩)∧w.cell? ⟨b,3,none⟩=some K∧w.cell? ⟨b,4,none⟩=some L ∧
  w.frozen? ⟨b,0,none⟩=false∧w.frozen? ⟨b,1,none⟩=false∧w.frozen? ⟨b,2,none⟩=false∧w.frozen? ⟨b,3,none⟩=false∧w.frozen? ⟨b,4,none⟩=false∧b < w.heap.size:=by
 refine⟨?_, ?_, ?_, ?_, ?_, ?_, ?_, ?_, ?_, ?_,ag h⟩ <;> simp[World.cell?,World.frozen?,h,ar]
theorem oG{σ:Type}{p:σ→Bs→Option (σ×Bs)}(hp:Shr p){e:UInt8}:∀n m a s,s.length < n→s.length < m→bc p e n a s=bc p e m a s:=by
 intro n
 induction n with
 |zero=>intro m a s h;omega
 |succ n ih=>
  intro m a s f g;obtain⟨m,rfl⟩:∃m',m=m'+1:=⟨m - 1,by omega⟩;have d:=cN s;unfold bc;split
  ·rfl
  ·rename_i c t hc
   rw[hc]at d;simp only[List.length_cons]at d;split
   ·split
    ·rename_i b r hb
     have:=hp _ _ _ _ hb;exact ih m b r (by omega) (by omega)
    ·rfl
   ·rfl
end
section
open Go Go.RowKit Go.Maps
variable{W w w':World}{rb k:Nat}{s:ByteArray}{bad:Bool}
def TrR(W w:World)(rb:Nat)(s:ByteArray)(o:Option (J×Bs))(e:Ending)(w':World):Prop:=
 ∃b,e=.returned (.pointer (some ⟨b,0,none⟩))∧Kp (· =rb) w w'∧∃k' bad',Rs W w' rb s k' bad'∧match o with | some (j,r)=>bad'=false∧ah s k'=r∧RR w' (fun c=>w.heap.size≤c∧c < w'.heap.size) j b | none=>bad'=true
theorem gD{o:Option (J×Bs)}{k' b:Nat}{j:J}{r:Bs}(ho:o=some (j,r))(hk:Kp (· =rb) w w')(hs:Rs W w' rb s k' false)(hr:ah s k'=r)(ht:RR w' (fun c=>w.heap.size≤c∧c < w'.heap.size) j b):TrR W w rb s o (.returned (.pointer (some ⟨b,0,none⟩))) w':=by
 subst ho;exact⟨_,rfl,hk,k',false,hs,rfl,hr,ht⟩
theorem bI{o:Option (J×Bs)}{k' b:Nat}(ho:o=none)(hk:Kp (· =rb) w w')(hs:Rs W w' rb s k' true):TrR W w rb s o (.returned (.pointer (some ⟨b,0,none⟩))) w':=by
 subst ho;exact⟨_,rfl,hk,k',true,hs,rfl⟩
def VlC(W:World)(D:Nat):Prop:=∀(rb:Nat) (s:ByteArray) (k:Nat) (w:World),Rs W w rb s k false →
 Calls prog 69 #[.pointer (some ⟨rb,0,none⟩),.int .i64 (D:Int)] w fun e w'=>TrR W w rb s ((az true (6 - D) (ah s k)).map fun x=>(x.1,sk x.2)) e w'
theorem jI:(prog.info? 66).map (fun i=>(i.zero,i.size,i.bytes))=some (some (.pointer none),1,8):=by kernel_rfl
theorem ew:(prog.info? 9).map (fun i=>(i.zero,i.size,i.bytes))=some (some (.string ⟨#[]⟩),1,16):=by kernel_rfl
structure ArI(lo vb:Nat)(x:List (J×Nat))(L:Value)(G:Nat→Prop)(w:World):Prop where
 blk:w.heap[vb]? =some (ar 91 0 [] (.slice none 0 0) L)
 row:w.ownsRow lo 66 1 L x.length (x.map fun p=>ptr p.2)
 trs:∀j c,(j,c) ∈ x→RR w G j c
 old:∀k,G k→lo≤k∧k < w.heap.size∧k≠vb
 own:∀k,L.ownBlock=some k→¬G k∧k≠vb
theorem ArI.kp{lo vb:Nat}{x:List (J×Nat)}{L:Value}{G:Nat→Prop}(h:ArI lo vb x L G w){S:Nat→Prop}(hk:Kp S w w')(hS:∀k,lo≤k→k < w.heap.size→¬S k)(hlo:lo≤vb):ArI lo vb x L G w':=
 ⟨(hk.block vb (ag h.blk) (hS vb hlo (ag h.blk))).trans h.blk,an h.row hk (fun k e=>by have:=h.row.lt k e;exact hS k this.1 this.2),
  fun j c hm=>(h.trs j c hm).frame (fun k hG=>hk.block k (h.old k hG).2.1 (hS k (h.old k hG).1 (h.old k hG).2.1)) (fun _ h=>h),
  fun k hG=>⟨(h.old k hG).1,Nat.lt_of_lt_of_le (h.old k hG).2.1 hk.size,(h.old k hG).2.2⟩,h.own⟩
theorem ArI.more{lo vb b hs:Nat}{x:List (J×Nat)}{L L':Value}{G:Nat→Prop}{w2 w3:World}{j:J}(h:ArI lo vb x L G w2)(hlt:∀k,G k→k < hs)(hvb:vb < hs)(hlo:lo≤hs)(hLt:∀k,L.ownBlock=some k→k < hs)
  (ht:RR w2 (fun c=>hs≤c∧c < w2.heap.size) j b) (B1:Kp (fun k=>L.ownBlock=some k) w2 w3) (h3:w3.heap[vb]? =some (ar 91 0 [] (.slice none 0 0) L))
  (y1:w3.ownsRow lo 66 1 L' (x.length+1) ((x.map fun p=>ptr p.2) ++[ptr b])) (m:L'.ownBlock=L.ownBlock∨∃q,w2.heap.size≤q∧L'.ownBlock=some q) (hs2:hs≤w2.heap.size) :
  ArI lo vb (x ++[(j,b)]) L' (fun k=>G k∨(hs≤k∧k < w2.heap.size)) (w3.setCell ⟨vb,4,none⟩ L'):=by
 have o:(w3.setCell ⟨vb,4,none⟩ L').heap.size=w3.heap.size:=by simp[World.setCell]
 have d:∀k,L'.ownBlock=some k→¬(G k∨(hs≤k∧k < w2.heap.size))∧k≠vb:=by
  intro k a;rcases m with e | ⟨q,n,e⟩
  ·rw[e]at a
   obtain⟨g,l⟩:=h.own k a;have:=hLt k a;exact⟨by rintro (h | h);exact g h;omega,l⟩
  ·rw[e]at a
   injection a with a
   refine⟨?_,by omega⟩;rintro (hg | hg)
   ·have:=hlt k hg;omega
   ·omega
 refine⟨?_, ?_, ?_, ?_,d⟩
 ·simp[World.setCell,Array.getElem?_modify,h3,ar]
 ·rw[List.length_append,List.map_append]
  exact ap y1 fun k a=>af (d k a).2
 ·intro i c f
  rcases List.mem_append.1 f with f | f
  ·refine (h.trs i c f).frame (fun k hG=> ?_) (fun k hG=>Or.inl hG)
   rw[af (h.old k hG).2.2,B1.block k (h.old k hG).2.1 (fun e=>(h.own k e).1 hG)]
  ·obtain⟨rfl,rfl⟩:i=j∧c=b:=by simpa using f
   refine ht.frame (fun k hG=> ?_) (fun k hG=>Or.inr hG);rw[af (by show k≠vb;omega),B1.block k hG.2 (fun e=>by have:=hLt k e;omega)]
 ·rintro k (hG | hG)
  ·have q:=h.old k hG
   have:=B1.size;exact⟨q.1,by omega,q.2.2⟩
  ·have:=B1.size
   exact⟨by omega,by omega,by omega⟩
end
section
open Go Go.RowKit
variable{W w w':World}{rb k:Nat}{s:ByteArray}{bad:Bool}
theorem eZ(s:ByteArray)(k:Nat):(ah s k).length=s.size - k:=by
 unfold ah;rw[List.length_drop];simp
theorem gx(s:ByteArray)(k n:Nat):ah s (k+n)=(ah s k).drop n:=by
 unfold ah;rw[List.drop_drop]
theorem fN(h:Rs W w rb s k false)(t:ByteArray)(ht:t.size≤10)(r:List UInt8)(hp:ah s k=t.data.toList ++r):
  Calls prog 125 #[.pointer (some ⟨rb,0,none⟩),.string t] w fun e w'=>e=.returned (.tuple #[])∧Kp (· =rb) w w'∧∃k',Rs W w' rb s k' false∧ah s k'=r:=by
 obtain⟨j,l,m,f1,f2,n⟩:=h.facts;have i:=h.sz;have u:=h.good rfl
 have d:s.size - k=t.size+r.length:=by
  have:=congrArg List.length hp;rw[eZ,List.length_append]at this;rw[this];simp
 have q:decide (((s.size:Int) - (k:Int)) < (t.size:Int))=false:=by simp;omega
 have c:s.extract k (k+t.size)=t:=by
  have a:=jX s k t.size;rw[hp,List.take_append_of_le_length (by simp),List.take_of_length_le (by simp)]at a;cases t
  cases c:s.extract k _
  rw[c]at a;simp at a;rw[a]
 have f:ah s (k+t.size)=r:=by
  rw[gx,hp,List.drop_append_of_le_length (by simp),List.drop_of_length_le (by simp)];rfl
 have g:=ae f;clear f hp;have b:k+t.size≤s.size:=by omega
 go_enter func125,ntmps125;go_wp2;go_quiet (fail)
 go_wp2;go_end0
 exact⟨rfl,Kp.setCell (p:=⟨rb,1,none⟩) ((Kp.refl (· =rb) _).drewN _) (fun _=>rfl) _,k+t.size,(h.drewN _).at _ (by omega) (fun _=>b),g.o⟩
theorem CS(h:Rs W w rb s k false)(t:ByteArray)(ht:t.size≤10)(hp:∀r,ah s k≠t.data.toList ++r):
  Calls prog 125 #[.pointer (some ⟨rb,0,none⟩),.string t] w fun e w'=>e=.returned (.tuple #[])∧Kp (· =rb) w w'∧Rs W w' rb s k true:=by
 obtain⟨c,d,f,f1,f2,g⟩:=h.facts;have b:=h.sz;have j:=h.good rfl;by_cases l:s.size - k < t.size
 ·have a:decide (((s.size:Int) - (k:Int)) < (t.size:Int))=true:=by simp;omega
  clear hp;go_enter func125,ntmps125;go_wp2;go_quiet (fail)
  go_wp2;refine bodyPost_ret (results_none rfl _ _ _) rfl ?_;exact⟨rfl,Kp.setCell (p:=⟨rb,2,none⟩) ((Kp.refl (· =rb) _).drewN _) (fun _=>rfl) _,(h.drewN _).turn true (fun e=>by cases e)⟩
 ·have a:decide (((s.size:Int) - (k:Int)) < (t.size:Int))=false:=by simp;omega
  have i:((s.extract k (k+t.size)).toList == t.toList)=false:=by
   rw[beq_eq_false_iff_ne,ByteArray.toList_eq,ByteArray.toList_eq,jX];intro e;refine hp ((ah s k).drop t.size) ?_;rw[←e,List.take_append_drop]
  clear hp;go_enter func125,ntmps125;go_wp2;go_quiet (fail)
  go_wp2;refine bodyPost_ret (results_none rfl _ _ _) rfl ?_;exact⟨rfl,Kp.setCell (p:=⟨rb,2,none⟩) ((Kp.refl (· =rb) _).drewN _) (fun _=>rfl) _,(h.drewN _).turn true (fun e=>by cases e)⟩
end
section
open Go Go.RowKit
variable{W w w':World}{rb k:Nat}{s:ByteArray}{bad:Bool}
def hxs(l:List UInt8):Nat→Nat×Bool
 |0=>(0,true)
 |i+1=>match bG (l.getD i 0) with | some d=>(16*(hxs l i).1+d,(hxs l i).2) | none=>(16*(hxs l i).1,false)
theorem om(l:List UInt8):∀i,(hxs l i).1 < 16 ^ i
 |0=>by simp[hxs]
 |i+1=>by
  have a:=om l i;rw[hxs,Nat.pow_succ];split
  ·rename_i d hd
   have:=gp hd;show 16*_+d < _
   omega
  ·show 16*_ < _
   omega
theorem oj:bG 0=none:=by decide
theorem pg(l:List UInt8):∀i,(hxs l i).2=true→i≤l.length
 |0,_=>by omega
 |i+1,h=>by
  rw[hxs]at h;split at h
  ·rename_i d hd
   have:=pg l i h;rcases Nat.lt_or_ge i l.length with a | a
   ·omega
   ·rw[show l.getD i 0=0 by rw[List.getD,List.getElem?_eq_none (by omega)];rfl,oj]at hd
    cases hd
  ·cases h
theorem rg(l:List UInt8):cI l=if (hxs l 4).2 then some ((hxs l 4).1,l.drop 4) else none:=by
 match l with
 | []=>rfl
 | [a]=>simp[cI,hxs,oj]
 | [a,b]=>simp[cI,hxs,oj]
 | [a,b,c]=>simp[cI,hxs,oj]
 |a :: b :: c :: d :: t=>
  simp only[cI,hxs,List.getD_cons_zero,List.getD_cons_succ];cases ha:bG a <;> cases hb:bG b <;> cases hc:bG c <;> cases hd:bG d <;> simp
  omega
theorem BV(s:ByteArray)(k i:Nat):nxt (ah s (k+i))=(ah s k).getD i 0:=by
 rw[gx];unfold nxt;generalize ah s k=l
 induction l generalizing i with
 |nil=>cases i <;> rfl
 |cons a l ih=>
  cases i with
  |zero=>rfl
  |succ i=>simp only[List.drop_succ_cons,List.getD_cons_succ];exact ih i
theorem y9(c:UInt8):(48≤(c.toNat:Int)∧(c.toNat:Int)≤57∧bG c=some (c.toNat - 48)) ∨
  (97≤(c.toNat:Int)∧(c.toNat:Int)≤102∧bG c=some (c.toNat - 97+10))∨(65≤(c.toNat:Int)∧(c.toNat:Int)≤70∧bG c=some (c.toNat - 65+10)) ∨
  (¬(48≤(c.toNat:Int)∧(c.toNat:Int)≤57)∧¬(97≤(c.toNat:Int)∧(c.toNat:Int)≤102)∧¬(65≤(c.toNat:Int)∧(c.toNat:Int)≤70)∧bG c=none):=by
 have f:(48:UInt8).toNat=48:=rfl;have g:(57:UInt8).toNat=57:=rfl;have j:(97:UInt8).toNat=97:=rfl;have e:(102:UInt8).toNat=102:=rfl;have h:(65:UInt8).toNat=65:=rfl;have i:(70:UInt8).toNat=70:=rfl;unfold bG;simp only[UInt8.le_iff_toNat_le,f,g,j,e,h,i];by_cases a:48≤c.toNat∧c.toNat≤57
 ·rw[if_pos a];left;exact⟨by omega,by omega,rfl⟩
 ·rw[if_neg a]
  by_cases b:97≤c.toNat∧c.toNat≤102
  ·rw[if_pos b];right;left;exact⟨by omega,by omega,rfl⟩
  ·rw[if_neg b]
   by_cases d:65≤c.toNat∧c.toNat≤70
   ·rw[if_pos d];right;right;left;exact⟨by omega,by omega,rfl⟩
   ·rw[if_neg d];right;right;right;exact⟨by omega,by omega,by omega,rfl⟩
theorem Ax(h:Rs W w rb s k bad)(hk:k+4≤s.size+9):
  Calls prog 216 #[.pointer (some ⟨rb,0,none⟩)] w fun e w'=>e=.returned (.int .i32 ((hxs (ah s k) 4).1:Int))∧Kp (· =rb) w w'∧Rs W w' rb s (k+4) (bad || !(hxs (ah s k) 4).2):=by
 have D:=h.sz;go_enter func216,ntmps216;go_wp2_with fail
 go_loopg [3,4] 4 (fun g x i wr=>∃n:Nat,g=4 - n∧n≤4∧x=.int .i32 ((hxs (ah s k) n).1:Int)∧i=.int .i64 (n:Int)∧Kp (· =rb) w wr∧Rs W wr rb s (k+n) (bad || !(hxs (ah s k) n).2))
 case atStart=>exact⟨0,rfl,by omega,rfl,rfl,Kp.refl _ _,by simpa[hxs] using h⟩
 case round=>
  obtain⟨n,v,L,rfl,rfl,q,l⟩:=hrel;have A:=ae v;clear v;by_cases y:n=4
  ·subst y
   go_wp2;go_ret;exact⟨rfl,q,l⟩
  ·have z:=om (ah s k) n
   have B:(hxs (ah s k) n).1 < 4096:=by
    have:n=0∨n=1∨n=2∨n=3:=by omega
    rcases this with rfl | rfl | rfl | rfl <;> omega
   have K:decide ((n:Int) < 4)=true:=by simp;omega
   have a:hxs (ah s k) (n+1)=match bG ((ah s k).getD n 0) with | some d=>(16*(hxs (ah s k) n).1+d,(hxs (ah s k) n).2) | none=>(16*(hxs (ah s k) n).1,false):=rfl
   have u:=BV s k n;have b:=pg (ah s k) (n+1);rw[eZ]at b;have C:=l.le;generalize hxs (ah s k) n=X at *;obtain⟨X,ok⟩:=X;generalize (ah s k).getD n 0=c at *;have j:=ae (An a (An u b));clear a u z b;have J:=c.toNat_lt;obtain⟨F,G,H,f1,f2,I⟩:=l.facts;go_wp2_with fail
   refine (dP l).mono ?_;rintro e w' ⟨rfl,m,rfl⟩;rw[j.o.2.1];rcases y9 c with⟨r,t,f⟩ | ⟨r,t,f⟩ | ⟨r,t,f⟩ | ⟨r,t,g3,f⟩
   ·have V:=ae f
    clear f;go_wp2;go_roundg (4 - (n+1))
    case measure=>rw[A.o];omega
    case rel=>
     have a:=j.o.1;rw[V.o]at a;have b:=j.o.2.2;refine⟨n+1,rfl,by omega, ?_,congrArg _ (by omega),Kp.setCell (p:=⟨rb,1,none⟩) (q.drewN _) (fun _=>rfl) _, ?_⟩
     ·rw[a]
      exact congrArg _ (by show _=((16*X+_:Nat):Int);omega)
     ·rw[a]at b ⊢
      rw[show ((k:Int)+(n:Int)+1)=((k+(n+1):Nat):Int) by omega]
      exact (l.drewN _).at (k+(n+1)) (by omega) (fun e=>by
        simp only[Bool.or_eq_false_iff,Bool.not_eq_false']at e;have:=b e.2;omega)
   ·have V:=ae f
    clear f;go_wp2;go_roundg (4 - (n+1))
    case measure=>rw[A.o];omega
    case rel=>
     have a:=j.o.1;rw[V.o]at a;have b:=j.o.2.2;refine⟨n+1,rfl,by omega, ?_,congrArg _ (by omega),Kp.setCell (p:=⟨rb,1,none⟩) (q.drewN _) (fun _=>rfl) _, ?_⟩
     ·rw[a]
      exact congrArg _ (by show _=((16*X+_:Nat):Int);omega)
     ·rw[a]at b ⊢
      rw[show ((k:Int)+(n:Int)+1)=((k+(n+1):Nat):Int) by omega]
      exact (l.drewN _).at (k+(n+1)) (by omega) (fun e=>by
        simp only[Bool.or_eq_false_iff,Bool.not_eq_false']at e;have:=b e.2;omega)
   ·have V:=ae f
    clear f;go_wp2;go_roundg (4 - (n+1))
    case measure=>rw[A.o];omega
    case rel=>
     have a:=j.o.1;rw[V.o]at a;have b:=j.o.2.2;refine⟨n+1,rfl,by omega, ?_,congrArg _ (by omega),Kp.setCell (p:=⟨rb,1,none⟩) (q.drewN _) (fun _=>rfl) _, ?_⟩
     ·rw[a]
      exact congrArg _ (by show _=((16*X+_:Nat):Int);omega)
     ·rw[a]at b ⊢
      rw[show ((k:Int)+(n:Int)+1)=((k+(n+1):Nat):Int) by omega]
      exact (l.drewN _).at (k+(n+1)) (by omega) (fun e=>by
        simp only[Bool.or_eq_false_iff,Bool.not_eq_false']at e;have:=b e.2;omega)
   ·have V:=ae f
    clear f;go_wp2
    all_goals first | (exfalso;omega) | skip
    all_goals
     go_roundg (4 - (n+1))
     case measure=>rw[A.o];omega
     case rel=>
      have a:=j.o.1;rw[V.o]at a;refine⟨n+1,rfl,by omega, ?_,congrArg _ (by omega),Kp.setCell (p:=⟨rb,1,none⟩) (Kp.setCell (p:=⟨rb,2,none⟩) (q.drewN _) (fun _=>rfl) _) (fun _=>rfl) _, ?_⟩
      ·rw[a]
       exact congrArg _ (by show _=((16*X:Nat):Int);omega)
      ·rw[a]
       rw[show ((k:Int)+(n:Int)+1)=((k+(n+1):Nat):Int) by omega];have E:=((l.drewN m).turn true (fun e=>by cases e)).at (k+(n+1)) (by omega) (fun e=>by cases e);simpa using E
end
end Go.Proofs.YtocligpfmfmihaaGreatDoor
