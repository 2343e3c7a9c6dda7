import Derived.Test.YtocligpfmfmihaaGreatDoorChn2G
set_option maxHeartbeats 4000000
set_option maxRecDepth 20000
namespace Go.Proofs.YtocligpfmfmihaaGreatDoor
open Go.Proofs.Tryz
section
open Go Go.RowKit Go.Extern.Stop Go.Stop Go.Extern
theorem CW(t:Addr)(w:World):(callFunc 114 #[.iface 123 (.pointer (some t))]).run prog w=.ok (.value ((Value.agg #[Value.pointer (some (Addr.mk 31 123 none)),Value.pointer (some ⟨w.heap.size,0,none⟩),Value.int IntKind.u64 150]))) (w.alloc (.cells #[.pointer (some t)] 123)):=by
 rw[@run_callFunc_extern prog 114 _ (fun args=>ReflectliteValue.unpack (args.getD 0 (.tuple #[]))) func114 (by kernel_rfl) (by kernel_rfl) (by kernel_rfl) (by kernel_rfl)];kernel_rfl
theorem CZ(t:Addr)(w:World):(callFunc 114 #[.iface 118 (.pointer (some t))]).run prog w=.ok (.value ((Value.agg #[Value.pointer (some (Addr.mk 31 118 none)),Value.pointer (some ⟨w.heap.size,0,none⟩),Value.int IntKind.u64 150]))) (w.alloc (.cells #[.pointer (some t)] 118)):=by
 rw[@run_callFunc_extern prog 114 _ (fun args=>ReflectliteValue.unpack (args.getD 0 (.tuple #[]))) func114 (by kernel_rfl) (by kernel_rfl) (by kernel_rfl) (by kernel_rfl)];kernel_rfl
theorem AY(a:Addr)(w:World):(callFunc 115 #[(Value.agg #[Value.pointer (some (Addr.mk 31 123 none)),Value.pointer (some a),Value.int IntKind.u64 150])]).run prog w=.ok (.value (.iface 289 ((Value.agg #[Value.pointer (some (Addr.mk 31 123 none))])))) w:=by
 rw[@run_callFunc_extern prog 115 _ (ReflectliteValue.methodAny (ReflectliteValue.valueError "reflectlite.Value.Type" 0) (fun t _ _ _=>ReflectliteType.toType t)) func115 (by kernel_rfl) (by kernel_rfl) (by kernel_rfl) (by kernel_rfl)];kernel_rfl
theorem AQ(w:World):(callFunc 317 #[.pointer (some ⟨31,123,none⟩)]).run prog w=.ok (.value (.int .u8 22)) w:=by
 rw[@run_callFunc_extern prog 317 _ (ReflectliteType.abiMethod fun t=>do pure (.int .u8 (←Rtype.kind t))) func317 (by kernel_rfl) (by kernel_rfl) (by kernel_rfl) (by kernel_rfl)];kernel_rfl
theorem AV(w:World):(callFunc 317 #[.pointer (some ⟨31,118,none⟩)]).run prog w=.ok (.value (.int .u8 22)) w:=by
 rw[@run_callFunc_extern prog 317 _ (ReflectliteType.abiMethod fun t=>do pure (.int .u8 (←Rtype.kind t))) func317 (by kernel_rfl) (by kernel_rfl) (by kernel_rfl) (by kernel_rfl)];kernel_rfl
theorem AK(w:World):(callFunc 342 #[(Value.agg #[Value.pointer (some (Addr.mk 31 123 none))])]).run prog w=.ok (.value (.iface 289 ((Value.agg #[Value.pointer (some (Addr.mk 31 118 none))])))) w:=by
 rw[@run_callFunc_extern prog 342 _ (ReflectliteType.method ReflectliteType.elem) func342 (by kernel_rfl) (by kernel_rfl) (by kernel_rfl) (by kernel_rfl)];kernel_rfl
theorem AN(w:World):(callFunc 343 #[(Value.agg #[Value.pointer (some (Addr.mk 31 118 none))]),.iface 289 ((Value.agg #[Value.pointer (some (Addr.mk 31 61 none))]))]).run prog w=.ok (.value (.bool true)) w:=by
 rw[@run_callFunc_extern prog 343 _ (ReflectliteType.relation "Implements" ReflectliteType.implements_) func343 (by kernel_rfl) (by kernel_rfl) (by kernel_rfl) (by kernel_rfl)];kernel_rfl
theorem sR(w:World):(callFunc 340 #[(Value.agg #[Value.pointer (some (Addr.mk 31 415 none))]),.iface 289 ((Value.agg #[Value.pointer (some (Addr.mk 31 118 none))]))]).run prog w=.ok (.value (.bool false)) w:=by
 rw[@run_callFunc_extern prog 340 _ (ReflectliteType.relation "AssignableTo" ReflectliteType.assignableTo) func340 (by kernel_rfl) (by kernel_rfl) (by kernel_rfl) (by kernel_rfl)];kernel_rfl
theorem sT(w:World):(callFunc 340 #[(Value.agg #[Value.pointer (some (Addr.mk 31 250 none))]),.iface 289 ((Value.agg #[Value.pointer (some (Addr.mk 31 118 none))]))]).run prog w=.ok (.value (.bool false)) w:=by
 rw[@run_callFunc_extern prog 340 _ (ReflectliteType.relation "AssignableTo" ReflectliteType.assignableTo) func340 (by kernel_rfl) (by kernel_rfl) (by kernel_rfl) (by kernel_rfl)];kernel_rfl
theorem sQ(w:World):(callFunc 340 #[(Value.agg #[Value.pointer (some (Addr.mk 31 117 none))]),.iface 289 ((Value.agg #[Value.pointer (some (Addr.mk 31 118 none))]))]).run prog w=.ok (.value (.bool false)) w:=by
 rw[@run_callFunc_extern prog 340 _ (ReflectliteType.relation "AssignableTo" ReflectliteType.assignableTo) func340 (by kernel_rfl) (by kernel_rfl) (by kernel_rfl) (by kernel_rfl)];kernel_rfl
theorem sS(w:World):(callFunc 340 #[(Value.agg #[Value.pointer (some (Addr.mk 31 118 none))]),.iface 289 ((Value.agg #[Value.pointer (some (Addr.mk 31 118 none))]))]).run prog w=.ok (.value (.bool true)) w:=by
 rw[@run_callFunc_extern prog 340 _ (ReflectliteType.relation "AssignableTo" ReflectliteType.assignableTo) func340 (by kernel_rfl) (by kernel_rfl) (by kernel_rfl) (by kernel_rfl)];kernel_rfl
theorem sU(w:World):(callFunc 340 #[(Value.agg #[Value.pointer (some (Addr.mk 31 188 none))]),.iface 289 ((Value.agg #[Value.pointer (some (Addr.mk 31 118 none))]))]).run prog w=.ok (.value (.bool false)) w:=by
 rw[@run_callFunc_extern prog 340 _ (ReflectliteType.relation "AssignableTo" ReflectliteType.assignableTo) func340 (by kernel_rfl) (by kernel_rfl) (by kernel_rfl) (by kernel_rfl)];kernel_rfl
theorem uN(a:Addr)(w:World):(ReflectliteValue.parts ((Value.agg #[Value.pointer (some (Addr.mk 31 123 none)),Value.pointer (some a),Value.int IntKind.u64 150]))).run prog w=.ok (some (123,a,150)) w:=by kernel_rfl
theorem Cv(a:Addr)(w:World):(ReflectliteValue.parts ((Value.agg #[Value.pointer (some (Addr.mk 31 118 none)),Value.pointer (some a),Value.int IntKind.u64 150]))).run prog w=.ok (some (118,a,150)) w:=by kernel_rfl
theorem Cy(a:Addr)(w:World):(ReflectliteValue.parts ((Value.agg #[Value.pointer (some (Addr.mk 31 118 none)),Value.pointer (some a),Value.int IntKind.u64 406]))).run prog w=.ok (some (118,a,406)) w:=by kernel_rfl
theorem Ch(w:World):(Rtype.elem? 123).run prog w=.ok (some 118) w:=by kernel_rfl
theorem Ck(p:Addr)(w:World):(ReflectliteValue.mk 118 p ReflectliteValue.flagAddr).run prog w=.ok ((Value.agg #[Value.pointer (some (Addr.mk 31 118 none)),Value.pointer (some p),Value.int IntKind.u64 406])) w:=by kernel_rfl
theorem Ce(w:World):(Rtype.directlyAssignable 118 118).run prog w=.ok true w:=by kernel_rfl
theorem yx(a p:Addr)(W:World)(ha:W.cell? a=some (.pointer (some p))):(callFunc 116 #[(Value.agg #[Value.pointer (some (Addr.mk 31 123 none)),Value.pointer (some a),Value.int IntKind.u64 150])]).run prog W=.ok (.value (.bool false)) W:=by
 rw[@run_callFunc_extern prog 116 _ (ReflectliteValue.method (ReflectliteValue.valueError "reflectlite.Value.IsNil" 0) ReflectliteValue.isNil) func116 (by kernel_rfl) (by kernel_rfl) (by kernel_rfl) (by kernel_rfl)];rw[rlm];simp only[Sem.run_bind,uN,Result.andThen];simp[ReflectliteValue.isNil,loadVar,isAgg,underlying,underlying123,ha,Result.andThen]
theorem yu(a p:Addr)(W:World)(ha:W.cell? a=some (.pointer (some p))):(callFunc 165 #[(Value.agg #[Value.pointer (some (Addr.mk 31 123 none)),Value.pointer (some a),Value.int IntKind.u64 150])]).run prog W=.ok (.value ((Value.agg #[Value.pointer (some (Addr.mk 31 118 none)),Value.pointer (some p),Value.int IntKind.u64 406]))) W:=by
 rw[@run_callFunc_extern prog 165 _ (ReflectliteValue.method (ReflectliteValue.valueError "reflectlite.Value.Elem" 0) ReflectliteValue.elem) func165 (by kernel_rfl) (by kernel_rfl) (by kernel_rfl) (by kernel_rfl)];rw[rlm];simp only[Sem.run_bind,uN,Result.andThen];simp[ReflectliteValue.elem,loadVar,isAgg,underlying,underlying123,ha,Result.andThen,Ch,Ck]
theorem yA(ta b e:Addr)(old:Value)(W:World)(hb:W.cell? b=some (.pointer (some e)))(ht:W.cell? ta=some old)(hf:W.frozen? ta=false):
  (callFunc 166 #[(Value.agg #[Value.pointer (some (Addr.mk 31 118 none)),Value.pointer (some ta),Value.int IntKind.u64 406]),(Value.agg #[Value.pointer (some (Addr.mk 31 118 none)),Value.pointer (some b),Value.int IntKind.u64 150])]).run prog W=.ok (.value (.tuple #[])) (W.setCell ta (.pointer (some e))):=by
 rw[@run_callFunc_extern prog 166 _ ReflectliteValue.set func166 (by kernel_rfl) (by kernel_rfl) (by kernel_rfl) (by kernel_rfl)];rw[rls];simp only[Sem.run_bind,Cv,Cy,Result.andThen];simp[ReflectliteValue.flagAddr,loadVar,isAgg,underlying,underlying118,hb,Result.andThen,Ce,storeVar,Value.cells,storeCells,Addr.add];rw[run_store prog W ta _ _ (by rfl)];simp[ht,hf]
theorem Bo(w:World)(a:Addr)(ks:List (Lk×ByteArray))(ev:Value)(hch:Chn w a ks ev)(tb:Nat)(old:Value)(va:Addr)(hva:w.cell? va=some (.pointer (some ⟨tb,0,none⟩)))(ht0:w.heap[tb]? =some (.cells #[old] 118)):
  Calls prog 117 #[ev,.iface 123 (.pointer (some ⟨tb,0,none⟩)),(Value.agg #[Value.pointer (some (Addr.mk 31 123 none)),Value.pointer (some va),Value.int IntKind.u64 150]),.iface 289 ((Value.agg #[Value.pointer (some (Addr.mk 31 118 none))]))] w fun e w'=>AsR Lk.evt 118 w tb (ks.find? (fun p=>p.1 == Lk.evt)) e w':=by
 have M:=CZ;have N:=fK;have g3:=sR;have g4:=md;have O:=dD;have P:=cY;have Q:=cH;have B:Kp (fun k=>k=tb) w (w.alloc (.cells #[.pointer (some ⟨31,123,none⟩),.pointer (some va),.int .u64 150] 214)):=(Kp.refl _ w).alloc _;have j:=bk hva;have y:=ag ht0;have n:(w.alloc (.cells #[.pointer (some ⟨31,123,none⟩),.pointer (some va),.int .u64 150] 214)).cell? va=some (.pointer (some ⟨tb,0,none⟩)):=by rw[World.cell?_alloc_lt _ _ va j];exact hva
 have m:(w.alloc (.cells #[.pointer (some ⟨31,123,none⟩),.pointer (some va),.int .u64 150] 214)).heap[tb]? =some (.cells #[old] 118):=by rw[Below.heap_alloc _ _ _ y];exact ht0
 have f:Chn (w.alloc (.cells #[.pointer (some ⟨31,123,none⟩),.pointer (some va),.int .u64 150] 214)) a ks ev:=hch.kp ((Kp.refl _ w).alloc _);have z:=ae f;obtain⟨t0,u0,rfl⟩:=hch.iface;clear hch f hva ht0 j;go_enter func117,ntmps117;go_wp2;have A:=ae B;clear B;have x:(w.alloc (.cells #[.pointer (some ⟨31,123,none⟩),.pointer (some va),.int .u64 150] 214)).heap.size=w.heap.size+1:=by simp
 have J:(w.alloc (.cells #[.pointer (some ⟨31,123,none⟩),.pointer (some va),.int .u64 150] 214)).cell? ⟨w.heap.size,0,none⟩=some (.pointer (some ⟨31,123,none⟩)):=by simp
 have K:(w.alloc (.cells #[.pointer (some ⟨31,123,none⟩),.pointer (some va),.int .u64 150] 214)).cell? ⟨w.heap.size,1,none⟩=some (.pointer (some va)):=by simp
 have L:(w.alloc (.cells #[.pointer (some ⟨31,123,none⟩),.pointer (some va),.int .u64 150] 214)).cell? ⟨w.heap.size,2,none⟩=some (.int .u64 150):=by simp
 generalize w.alloc (.cells #[.pointer (some ⟨31,123,none⟩),.pointer (some va),.int .u64 150] 214)=w1 at *
 go_loopg [0] ks.length (fun gg v wr=>∃d:List (Lk×ByteArray),gg=d.length∧Chn w1 a d v∧d.find? (fun p=>p.1 == Lk.evt)=ks.find? (fun p=>p.1 == Lk.evt)∧wr=w1)
 case atStart=>exact⟨ks,rfl,z.o,rfl,rfl⟩
 case round=>
  obtain⟨d,h,I,c,rfl⟩:=hrel;clear z
  cases I with
  |nil=>
   have i:=ae c;clear h c;unfold ax;go_wp2;go_ret;exact AsR.none A.o i.o.symm
  |cons k ks2 b2 s ev2 hb2 hc2=>
   have b:=gj hb2;have q:=ae h;have H:=ae hb2;have i:=ae c;have g:=ae hc2;obtain⟨t2,u2,rfl⟩:=hc2.iface;clear h hc2 hb2 c
   cases k with
   |mem=>
    have r:=fq;have u:=sT;have D:=kF;have G:=dY;have C:=cW;simp only[Lk.off]at b;simp only[Lk.t];go_wp2;go_roundg ks2.length
    case measure=>rw[q.o];exact Nat.lt_succ_self _
    case rel=>exact⟨ks2,rfl,g.o,i.o,rfl⟩
   |doc=>
    have r:=fh;have u:=sQ;have D:=ni;have G:=eF;have C:=dK;simp only[Lk.off]at b;simp only[Lk.t];go_wp2;go_roundg ks2.length
    case measure=>rw[q.o];exact Nat.lt_succ_self _
    case rel=>exact⟨ks2,rfl,g.o,i.o,rfl⟩
   |evt=>
    have r:=fj;have u:=sS;have R:=yu va ⟨tb,0,none⟩ wr n;have l:(wr.alloc (.cells #[.pointer (some ⟨b2,0,none⟩)] 118)).heap[tb]? =some (.cells #[old] 118):=by rw[Below.heap_alloc _ _ _ (by omega)];exact m
    obtain⟨E,F⟩:=aj l;have S:=yA ⟨tb,0,none⟩ ⟨w.heap.size+1,0,none⟩ ⟨b2,0,none⟩ old (wr.alloc (.cells #[.pointer (some ⟨b2,0,none⟩)] 118)) (by rw[←x];simp) E F;clear E F;simp only[Lk.off]at b;simp only[Lk.t];go_wp2;go_ret;rw[ip (ag m)];exact AsR.hit A.o i.o H.o l (by decide) (by decide)
   |srv=>
    have r:=ft;have u:=sU;have D:=nk;have G:=eH;have C:=dM;simp only[Lk.off]at b;simp only[Lk.t];go_wp2;go_roundg ks2.length
    case measure=>rw[q.o];exact Nat.lt_succ_self _
    case rel=>exact⟨ks2,rfl,g.o,i.o,rfl⟩
theorem C5(w:World)(a:Addr)(ks:List (Lk×ByteArray))(ev:Value)(hch:Chn w a ks ev)(tb:Nat)(old:Value)(hg:w.cell? ⟨9,0,none⟩=some (.iface 289 ((Value.agg #[Value.pointer (some (Addr.mk 31 61 none))]))))(ht0:w.heap[tb]? =some (.cells #[old] 118)):
  Calls prog 67 #[ev,.iface 123 (.pointer (some ⟨tb,0,none⟩))] w fun e w'=>AsR Lk.evt 118 w tb (ks.find? (fun p=>p.1 == Lk.evt)) e w':=by
 have d:Kp (fun _=>False) w ((w.alloc (.cells #[.pointer (some ⟨tb,0,none⟩)] 123)).alloc (.cells #[.pointer (some ⟨31,123,none⟩),.pointer (some ⟨w.heap.size,0,none⟩),.int .u64 150] 214)):=((Kp.refl _ w).alloc _).alloc _;have l:=CW;have m:=AY;have n:=iK;have q:=iI;have s:=iJ;have t:=AQ;have u:=AV;have v:=AK;have i:=AN;have c:=bk hg;have b:((w.alloc (.cells #[.pointer (some ⟨tb,0,none⟩)] 123)).alloc (.cells #[.pointer (some ⟨31,123,none⟩),.pointer (some ⟨w.heap.size,0,none⟩),.int .u64 150] 214)).cell? ⟨w.heap.size,0,none⟩=some (.pointer (some ⟨tb,0,none⟩)):=by simp
 have j:=yx ⟨w.heap.size,0,none⟩ ⟨tb,0,none⟩ _ b;have k:((w.alloc (.cells #[.pointer (some ⟨tb,0,none⟩)] 123)).alloc (.cells #[.pointer (some ⟨31,123,none⟩),.pointer (some ⟨w.heap.size,0,none⟩),.int .u64 150] 214)).cell? ⟨9,0,none⟩=some (.iface 289 ((Value.agg #[Value.pointer (some (Addr.mk 31 61 none))]))):=by rw[World.cell?_alloc_lt _ _ ⟨9,0,none⟩ (by simp at c ⊢;omega),World.cell?_alloc_lt _ _ ⟨9,0,none⟩ c];exact hg
 have h:=ae (Bo _ a ks ev (hch.kp d) tb old ⟨w.heap.size,0,none⟩ b ((d.block _ (ag ht0) (by simp)).trans ht0));have g:=ae d;obtain⟨t0,u0,rfl⟩:=hch.iface;clear hch d b c ht0 hg;go_enter func67,ntmps67;go_wp2_with fail
 refine h.o.mono ?_;rintro e w' f;obtain⟨r,rfl⟩:=f.ret;go_wp2;go_ret;exact f.before g.o
end
section
open Go Go.RowKit Go.Maps Go.WideMaps
def bh:List Nat:=[0,1,2,3]
def Plain(W:World)(a:Addr):Prop:=(∃c t,W.heap[a.block]? =some (.cells c t))∧∀g ∈ bh,W.cell? ⟨g,0,none⟩≠some (ax a)
structure NG2(W:World):Prop where
 ng:NG W
 lay:∀g ∈ bh,∃a c t,W.cell? ⟨g,0,none⟩=some (ax a)∧W.heap[a.block]? =some (.cells c t)
 sml:∀g ∈ [14,13,15,16,17,7],∃a,W.cell? ⟨g,0,none⟩=some (ax a)∧Plain W a
inductive Ech (W w:World):Value→Prop
 |base (a:Addr):Plain W a→Ech W w (ax a)
 |mem (b:Nat) (s:ByteArray) (ev:Value):w.heap[b]? =some (.cells #[.string s,ev] 252)→Ech W w ev→Ech W w (.iface 250 (.pointer (some ⟨b,0,none⟩)))
theorem Ech.up{W w w':World}{ev:Value}(h:Ech W w ev)(hk:Kp (fun _=>False) w w'):Ech W w' ev:=by
 induction h with
 |base a h=>exact .base a h
 |mem b s ev h _ ih=>exact .mem b s ev (hk.heap h) ih
theorem Ech.iface{W w:World}{ev:Value}(h:Ech W w ev):∃t u,ev=.iface t u:=by
 cases h with
 |base a h=>exact⟨_,_,rfl⟩
 |mem b s ev h _=>exact⟨_,_,rfl⟩
def UdV(w:World)(o:Option J)(v:Value):Prop:=match o with | none=>v=.nilIface | some j=>Rep w (fun k=>k < w.heap.size) j v
theorem usn(w:World):(Instr.typeAssert .nilIface 59 137 true).run prog w=.ok (.tuple #[.string ⟨#[]⟩,.bool false]) w:=by kernel_rfl
theorem us0(w:World):(Instr.typeAssert (.iface 221 (.agg #[])) 59 137 true).run prog w=.ok (.tuple #[.string ⟨#[]⟩,.bool false]) w:=by kernel_rfl
theorem us1(b:Bool)(w:World):(Instr.typeAssert (.iface 222 (.bool b)) 59 137 true).run prog w=.ok (.tuple #[.string ⟨#[]⟩,.bool false]) w:=by kernel_rfl
theorem us2(n:Int)(w:World):(Instr.typeAssert (.iface 224 (.int .i64 n)) 59 137 true).run prog w=.ok (.tuple #[.string ⟨#[]⟩,.bool false]) w:=by kernel_rfl
theorem us3(s:ByteArray)(w:World):(Instr.typeAssert (.iface 137 (.string s)) 59 137 true).run prog w=.ok (.tuple #[.string s,.bool true]) w:=by kernel_rfl
theorem us4(sv:Value)(w:World):(Instr.typeAssert (.iface 228 sv) 59 137 true).run prog w=.ok (.tuple #[.string ⟨#[]⟩,.bool false]) w:=by kernel_rfl
theorem us5(mb:Option Nat)(w:World):(Instr.typeAssert (.iface 71 (.map mb)) 59 137 true).run prog w=.ok (.tuple #[.string ⟨#[]⟩,.bool false]) w:=by kernel_rfl
theorem umn(w:World):(Instr.typeAssert .nilIface 59 224 true).run prog w=.ok (.tuple #[.int .i64 0,.bool false]) w:=by kernel_rfl
theorem um0(w:World):(Instr.typeAssert (.iface 221 (.agg #[])) 59 224 true).run prog w=.ok (.tuple #[.int .i64 0,.bool false]) w:=by kernel_rfl
theorem um1(b:Bool)(w:World):(Instr.typeAssert (.iface 222 (.bool b)) 59 224 true).run prog w=.ok (.tuple #[.int .i64 0,.bool false]) w:=by kernel_rfl
theorem um2(n:Int)(w:World):(Instr.typeAssert (.iface 224 (.int .i64 n)) 59 224 true).run prog w=.ok (.tuple #[.int .i64 n,.bool true]) w:=by kernel_rfl
theorem um3(s:ByteArray)(w:World):(Instr.typeAssert (.iface 137 (.string s)) 59 224 true).run prog w=.ok (.tuple #[.int .i64 0,.bool false]) w:=by kernel_rfl
theorem um4(sv:Value)(w:World):(Instr.typeAssert (.iface 228 sv) 59 224 true).run prog w=.ok (.tuple #[.int .i64 0,.bool false]) w:=by kernel_rfl
theorem um5(mb:Option Nat)(w:World):(Instr.typeAssert (.iface 71 (.map mb)) 59 224 true).run prog w=.ok (.tuple #[.int .i64 0,.bool false]) w:=by kernel_rfl
theorem uon(w:World):(Instr.typeAssert .nilIface 59 71 true).run prog w=.ok (.tuple #[.map none,.bool false]) w:=by kernel_rfl
theorem pK(w:World)(l:List (Bs×J))(b:Nat)(k:Bs)(hk:k.length≤139000000000000)(ho:Oz w l b):
  ∃v,(Instr.lookup 71 (.map (some b)) (.string ⟨k.toArray⟩) false).run prog w=.ok v w∧UdV w (ai k l) v:=by
 obtain⟨p,m,e,i,c,d⟩:=ho.shape;cases e
 obtain⟨o,n,h,a⟩:=c.lookup ed underlying71 (kQ w) (R:=Rv) (zd:=.held .nilIface) (zp:=[]) rfl (dj hk);refine⟨o,h, ?_⟩;rw[l7]at a;rcases Repm.look k l m d with⟨f,g⟩ | ⟨v,x,f,g,j⟩
 ·rw[f]at a
  simp only[Rv,Option.some.injEq,Prod.mk.injEq,DataW.held.injEq]at a;rw[g];exact a.1
 ·rw[f]at a
  simp only[Rv,Option.some.injEq,Prod.mk.injEq,DataW.held.injEq]at a;rw[g];show Rep _ _ _ _
  rw[a.1];exact j
theorem UdV.shape{w:World}{o:Option J}{v:Value}(h:UdV w o v):v=.nilIface∨∃t u,v=.iface t u:=by
 cases o with
 |none=>exact Or.inl h
 |some j=>exact Or.inr (Rep.iface h)
theorem yh{w:World}{o:Option J}{v:Value}(h:UdV w o v):(∃s,dS o=some s∧∀w',(Instr.typeAssert v 59 137 true).run prog w'=.ok (.tuple #[.string ⟨s.toArray⟩,.bool true]) w') ∨
  (dS o=none∧∀w',(Instr.typeAssert v 59 137 true).run prog w'=.ok (.tuple #[.string ⟨#[]⟩,.bool false]) w'):=by
 cases o with
 |none=>cases h;exact Or.inr ⟨rfl,usn⟩
 |some j=>
  have h:Rep w (fun k=>k < w.heap.size) j v:=h
  cases j with
  |null=>rw[Rep]at h;cases h;exact Or.inr ⟨rfl,us0⟩
  |bool b=>rw[Rep]at h;cases h;exact Or.inr ⟨rfl,us1 b⟩
  |num n=>rw[Rep]at h;cases h;exact Or.inr ⟨rfl,us2 n⟩
  |str s=>rw[Rep]at h;cases h;exact Or.inl ⟨s,rfl,us3 _⟩
  |arr l=>rw[Rep]at h;obtain⟨sv,a,e,_⟩:=h;cases e;exact Or.inr ⟨rfl,us4 _⟩
  |obj l=>rw[Rep]at h;obtain⟨b,m,e,_⟩:=h;cases e;exact Or.inr ⟨rfl,us5 _⟩
def zB:Option J→Option Int | some (.num n)=>some n | _=>none
theorem DQ{w:World}{o:Option J}{v:Value}(h:UdV w o v):(∃n,zB o=some n∧∀w',(Instr.typeAssert v 59 224 true).run prog w'=.ok (.tuple #[.int .i64 n,.bool true]) w') ∨
  (zB o=none∧∀w',(Instr.typeAssert v 59 224 true).run prog w'=.ok (.tuple #[.int .i64 0,.bool false]) w'):=by
 cases o with
 |none=>cases h;exact Or.inr ⟨rfl,umn⟩
 |some j=>
  have h:Rep w (fun k=>k < w.heap.size) j v:=h
  cases j with
  |null=>rw[Rep]at h;cases h;exact Or.inr ⟨rfl,um0⟩
  |bool b=>rw[Rep]at h;cases h;exact Or.inr ⟨rfl,um1 b⟩
  |num n=>rw[Rep]at h;cases h;exact Or.inl ⟨n,rfl,um2 _⟩
  |str s=>rw[Rep]at h;cases h;exact Or.inr ⟨rfl,um3 _⟩
  |arr l=>rw[Rep]at h;obtain⟨sv,a,e,_⟩:=h;cases e;exact Or.inr ⟨rfl,um4 _⟩
  |obj l=>rw[Rep]at h;obtain⟨b,m,e,_⟩:=h;cases e;exact Or.inr ⟨rfl,um5 _⟩
def dt:Option J→Option (List (Bs×J)) | some (.obj m)=>some m | _=>none
theorem DR{w:World}{o:Option J}{v:Value}(h:UdV w o v):(∃m b,dt o=some m∧Oz w m b∧∀w',(Instr.typeAssert v 59 71 true).run prog w'=.ok (.tuple #[.map (some b),.bool true]) w') ∨
  (dt o=none∧∀w',(Instr.typeAssert v 59 71 true).run prog w'=.ok (.tuple #[.map none,.bool false]) w'):=by
 cases o with
 |none=>cases h;exact Or.inr ⟨rfl,uon⟩
 |some j=>
  have h:Rep w (fun k=>k < w.heap.size) j v:=h
  cases j with
  |null=>rw[Rep]at h;cases h;exact Or.inr ⟨rfl,to0⟩
  |bool b=>rw[Rep]at h;cases h;exact Or.inr ⟨rfl,to1 b⟩
  |num n=>rw[Rep]at h;cases h;exact Or.inr ⟨rfl,to2 _⟩
  |str s=>rw[Rep]at h;cases h;exact Or.inr ⟨rfl,to3 _⟩
  |arr l=>rw[Rep]at h;obtain⟨sv,c,e,_⟩:=h;cases e;exact Or.inr ⟨rfl,to4 _⟩
  |obj l=>
   have a:=h;rw[Rep]at h;obtain⟨b,m,e,_⟩:=h;cases e
   exact Or.inl ⟨l,b,rfl,a,vN _⟩
def UnR(W w:World)(z:Value)(o:Option Value)(e:Ending)(w':World):Prop:=Kp (fun _=>False) w w'∧match o with
 |some v=>e=.returned (.tuple #[v,.nilIface])
 |none=>∃ev,e=.returned (.tuple #[z,ev])∧Ech W w' ev
theorem uc{W w:World}{s:ByteArray}{ev:Value}(h:Ech W w ev):Ech W (w.alloc (.cells #[.string s,ev] 252)).drew (.iface 250 (.pointer (some ⟨w.heap.size,0,none⟩))):=
 .mem _ s ev (by exact heap_alloc_new w _) (h.up (((Kp.refl _ w).alloc _).drew))
theorem lV{W w0 w:World}{s:ByteArray}{z ev:Value}(hk:Kp (fun _=>False) w0 w)(h:Ech W w ev):UnR W w0 z none (.returned (.tuple #[z,.iface 250 (.pointer (some ⟨w.heap.size,0,none⟩))])) (w.alloc (.cells #[.string s,ev] 252)).drew:=
 ⟨(hk.alloc _).drew,_,rfl,uc h⟩
theorem zx(o:Option J):cC o=(zB o).bind fun n=>if 0≤n then some n else none:=by
 cases o with
 |none=>rfl
 |some j=>cases j <;> rfl
theorem gJ(W:World)(hN:NG2 W)(w:World)(hW:Below W.heap.size W w)(l:List (Bs×J))(b:Nat)(k:Bs)(hk:k.length≤139000000000000)(ho:Oz w l b):
  Calls prog 138 #[.map (some b),.string ⟨k.toArray⟩] w fun e w'=>UnR W w (.string ⟨#[]⟩) ((dS (ai k l)).map fun s=>.string ⟨s.toArray⟩) e w':=by
 obtain⟨v,j,c⟩:=pK w l b k hk ho;obtain⟨a,h,hp⟩:=hN.sml 14 (by simp);have i:=Below.cl hW h;have g:Hid (Ech W w (ax a)):=Ech.base a hp;unfold ax at i g;clear h hp ho;rcases yh c with⟨s,d,f⟩ | ⟨d,f⟩
 ·rw[d]
  rcases c.shape with rfl | ⟨m,u,rfl⟩
  all_goals
   clear c d;go_enter func138,ntmps138;go_wp2;go_ret2
   exact⟨Kp.refl _ _,rfl⟩
 ·rw[d]
  rcases c.shape with rfl | ⟨m,u,rfl⟩
  all_goals
   clear c d;go_enter func138,ntmps138;go_wp2;go_region
   go_wp2;go_ret2
   exact lV (Kp.refl _ _) g.o
def OuR(W w:World)(o:Option (List (Bs×J)))(e:Ending)(w':World):Prop:=Kp (fun _=>False) w w'∧match o with
 |some m=>∃b,e=.returned (.tuple #[.map (some b),.nilIface])∧Oz w' m b
 |none=>∃ev,e=.returned (.tuple #[.map none,ev])∧Ech W w' ev
theorem kT(W:World)(hN:NG2 W)(w:World)(hW:Below W.heap.size W w)(l:List (Bs×J))(b:Nat)(k:Bs)(hk:k.length≤139000000000000)(ho:Oz w l b):
  Calls prog 217 #[.map (some b),.string ⟨k.toArray⟩] w fun e w'=>OuR W w (dt (ai k l)) e w':=by
 obtain⟨v,n,c⟩:=pK w l b k hk ho;obtain⟨a,h,hp⟩:=hN.sml 14 (by simp);have j:=Below.cl hW h;have g:Hid (Ech W w (ax a)):=Ech.base a hp;unfold ax at j g;clear h hp ho;rcases DR c with⟨m,i,d,p,f⟩ | ⟨d,f⟩
 ·rw[d]
  rcases c.shape with rfl | ⟨q,u,rfl⟩
  all_goals
   clear c d;go_enter func217,ntmps217;go_wp2;go_ret2
   exact⟨Kp.refl _ _,i,rfl,p⟩
 ·rw[d]
  rcases c.shape with rfl | ⟨q,u,rfl⟩
  all_goals
   clear c d;go_enter func217,ntmps217;go_wp2;go_region
   go_wp2;go_ret2
   exact lV (Kp.refl _ _) g.o
theorem gZ(W:World)(hN:NG2 W)(w:World)(hW:Below W.heap.size W w)(l:List (Bs×J))(b:Nat)(k:Bs)(hk:k.length≤139000000000000)(ho:Oz w l b):
  Calls prog 134 #[.map (some b),.string ⟨k.toArray⟩] w fun e w'=>UnR W w (.int .i64 0) ((cC (ai k l)).map fun n=>.int .i64 n) e w':=by
 obtain⟨v,y,c⟩:=pK w l b k hk ho;obtain⟨a,s,hp⟩:=hN.sml 14 (by simp);obtain⟨a2,g,h⟩:=hN.sml 15 (by simp);have x:=Below.cl hW s;have j:=Below.cl hW g;have r:Hid (Ech W w (ax a)):=Ech.base a hp;have f:Hid (Ech W w (ax a2)):=Ech.base a2 h;unfold ax at x r j f;clear s hp ho g h;rw[zx];rcases DQ c with⟨n,d,p⟩ | ⟨d,p⟩
 ·rw[d]
  by_cases i:0≤n
  ·have m:decide (n < 0)=false:=by simp;omega
   have q:=ae (show ((some n).bind fun n=>if 0≤n then some n else none)=some n by simp[i]);rcases c.shape with rfl | ⟨t,u,rfl⟩
   all_goals
    clear c d i;go_enter func134,ntmps134;go_wp2;go_ret2
    rw[q.o];exact⟨Kp.refl _ _,rfl⟩
  ·have m:decide (n < 0)=true:=by simp;omega
   have q:=ae (show ((some n).bind fun n=>if 0≤n then some n else none)=none by simp[i]);rcases c.shape with rfl | ⟨t,u,rfl⟩
   all_goals
    clear c d i;go_enter func134,ntmps134;go_wp2;go_region
    go_wp2;go_ret2
    rw[q.o];exact lV (Kp.refl _ _) f.o
 ·rw[d]
  rcases c.shape with rfl | ⟨t,u,rfl⟩
  all_goals
   clear c d;go_enter func134,ntmps134;go_wp2;go_region
   go_wp2;go_ret2
   exact lV (Kp.refl _ _) r.o
theorem m6(s:Bs)(w:World):Calls prog 174 #[.string ⟨s.toArray⟩] w fun e w'=>e=.returned (.bool (cd s))∧w'=w:=by
 have g:=aN s;by_cases b:1≤s.length
 ·have d:decide ((1:Int)≤(s.length:Int))=true:=by simp;omega
  by_cases c:s.length≤20
  ·have f:decide ((s.length:Int)≤20)=true:=by simp;omega
   have a:=ae (show cd s=true by simp[cd,b,c]);clear b c;go_enter func174,ntmps174;go_wp2;go_ret;rw[a.o];exact⟨rfl,rfl⟩
  ·have f:decide ((s.length:Int)≤20)=false:=by simp;omega
   have a:=ae (show cd s=false by simp[cd,c]);clear b c;go_enter func174,ntmps174;go_wp2;go_ret;rw[a.o];exact⟨rfl,rfl⟩
 ·have d:decide ((1:Int)≤(s.length:Int))=false:=by simp;omega
  have a:=ae (show cd s=false by simp[cd];omega);clear b;go_enter func174,ntmps174;go_wp2;go_ret;rw[a.o];exact⟨rfl,rfl⟩
theorem jw(W:World)(hN:NG2 W)(w:World)(hW:Below W.heap.size W w)(l:List (Bs×J))(b:Nat)(k:Bs)(hk:k.length≤139000000000000)(ho:Oz w l b):
  Calls prog 133 #[.map (some b),.string ⟨k.toArray⟩] w fun e w'=>UnR W w (.string ⟨#[]⟩) ((bs (ai k l)).map fun s=>.string ⟨s.toArray⟩) e w':=by
 obtain⟨a,q,hp⟩:=hN.sml 13 (by simp);have p:=ae (gJ W hN w hW l b k hk ho);clear ho;go_enter func133,ntmps133;go_wp2_with fail
 refine p.o.mono ?_;rintro e w1 ⟨j,d⟩;have r:=Below.cl (am hW j) q;have n:Hid (Ech W w1 (ax a)):=Ech.base a hp;unfold ax at r n;have h:=ae j;clear p q hp j;have c:bs (ai k l)=(dS (ai k l)).bind fun s=>if cd s then some s else none:=rfl
 cases hs:dS (ai k l) with
 |none=>
  rw[hs]at d;obtain⟨t,rfl,m⟩:=d;obtain⟨v,u,rfl⟩:=m.iface;have g:=ae m;rw[hs]at c;have f:=ae c;clear m hs c;go_wp2;go_ret2
  rw[f.o];exact⟨h.o,_,rfl,g.o⟩
 |some s=>
  rw[hs]at d;replace d:e=.returned (.tuple #[.string ⟨s.toArray⟩,.nilIface]):=d;subst d;rw[hs]at c;clear hs
  cases hn:cd s with
  |true=>
   have f:=ae (show bs (ai k l)=some s by rw[c];simp[hn]);clear c;have i:=ae hn;clear hn;go_wp2_with fail
   refine (m6 s w1).mono ?_;rintro e w2 ⟨rfl,rfl⟩;rw[i.o];go_wp2;go_ret2
   rw[f.o];exact⟨h.o,rfl⟩
  |false=>
   have f:=ae (show bs (ai k l)=none by rw[c];simp[hn]);clear c;have i:=ae hn;clear hn;go_wp2_with fail
   refine (m6 s w1).mono ?_;rintro e w2 ⟨rfl,rfl⟩;rw[i.o];go_wp2;go_region
   go_wp2;go_ret2
   rw[f.o];exact lV h.o n.o
end
end Go.Proofs.YtocligpfmfmihaaGreatDoor
