import Derived.Test.YtocligpfmfmihaaGreatDoorSgn4G
set_option maxHeartbeats 4000000
set_option maxRecDepth 20000
namespace Go.Proofs.YtocligpfmfmihaaGreatDoor
open Go.Proofs.Tryz
section
open Go Go.RowKit Go.Extern.Stop Go.Stop Go.Extern
theorem vV(t:Addr)(w:World):(callFunc 114 #[.iface 189 (.pointer (some t))]).run prog w=.ok (.value ((Value.agg #[Value.pointer (some (Addr.mk 31 189 none)),Value.pointer (some ⟨w.heap.size,0,none⟩),Value.int IntKind.u64 150]))) (w.alloc (.cells #[.pointer (some t)] 189)):=by
 rw[@run_callFunc_extern prog 114 _ (fun args=>ReflectliteValue.unpack (args.getD 0 (.tuple #[]))) func114 (by kernel_rfl) (by kernel_rfl) (by kernel_rfl) (by kernel_rfl)];kernel_rfl
theorem vW(t:Addr)(w:World):(callFunc 114 #[.iface 188 (.pointer (some t))]).run prog w=.ok (.value ((Value.agg #[Value.pointer (some (Addr.mk 31 188 none)),Value.pointer (some ⟨w.heap.size,0,none⟩),Value.int IntKind.u64 150]))) (w.alloc (.cells #[.pointer (some t)] 188)):=by
 rw[@run_callFunc_extern prog 114 _ (fun args=>ReflectliteValue.unpack (args.getD 0 (.tuple #[]))) func114 (by kernel_rfl) (by kernel_rfl) (by kernel_rfl) (by kernel_rfl)];kernel_rfl
theorem tR(a:Addr)(w:World):(callFunc 115 #[(Value.agg #[Value.pointer (some (Addr.mk 31 189 none)),Value.pointer (some a),Value.int IntKind.u64 150])]).run prog w=.ok (.value (.iface 289 ((Value.agg #[Value.pointer (some (Addr.mk 31 189 none))])))) w:=by
 rw[@run_callFunc_extern prog 115 _ (ReflectliteValue.methodAny (ReflectliteValue.valueError "reflectlite.Value.Type" 0) (fun t _ _ _=>ReflectliteType.toType t)) func115 (by kernel_rfl) (by kernel_rfl) (by kernel_rfl) (by kernel_rfl)];kernel_rfl
theorem tP(w:World):(callFunc 317 #[.pointer (some ⟨31,189,none⟩)]).run prog w=.ok (.value (.int .u8 22)) w:=by
 rw[@run_callFunc_extern prog 317 _ (ReflectliteType.abiMethod fun t=>do pure (.int .u8 (←Rtype.kind t))) func317 (by kernel_rfl) (by kernel_rfl) (by kernel_rfl) (by kernel_rfl)];kernel_rfl
theorem tQ(w:World):(callFunc 317 #[.pointer (some ⟨31,188,none⟩)]).run prog w=.ok (.value (.int .u8 22)) w:=by
 rw[@run_callFunc_extern prog 317 _ (ReflectliteType.abiMethod fun t=>do pure (.int .u8 (←Rtype.kind t))) func317 (by kernel_rfl) (by kernel_rfl) (by kernel_rfl) (by kernel_rfl)];kernel_rfl
theorem tM(w:World):(callFunc 342 #[(Value.agg #[Value.pointer (some (Addr.mk 31 189 none))])]).run prog w=.ok (.value (.iface 289 ((Value.agg #[Value.pointer (some (Addr.mk 31 188 none))])))) w:=by
 rw[@run_callFunc_extern prog 342 _ (ReflectliteType.method ReflectliteType.elem) func342 (by kernel_rfl) (by kernel_rfl) (by kernel_rfl) (by kernel_rfl)];kernel_rfl
theorem tN(w:World):(callFunc 343 #[(Value.agg #[Value.pointer (some (Addr.mk 31 188 none))]),.iface 289 ((Value.agg #[Value.pointer (some (Addr.mk 31 61 none))]))]).run prog w=.ok (.value (.bool true)) w:=by
 rw[@run_callFunc_extern prog 343 _ (ReflectliteType.relation "Implements" ReflectliteType.implements_) func343 (by kernel_rfl) (by kernel_rfl) (by kernel_rfl) (by kernel_rfl)];kernel_rfl
theorem mw(w:World):(callFunc 340 #[(Value.agg #[Value.pointer (some (Addr.mk 31 415 none))]),.iface 289 ((Value.agg #[Value.pointer (some (Addr.mk 31 188 none))]))]).run prog w=.ok (.value (.bool false)) w:=by
 rw[@run_callFunc_extern prog 340 _ (ReflectliteType.relation "AssignableTo" ReflectliteType.assignableTo) func340 (by kernel_rfl) (by kernel_rfl) (by kernel_rfl) (by kernel_rfl)];kernel_rfl
theorem s9(w:World):(callFunc 340 #[(Value.agg #[Value.pointer (some (Addr.mk 31 250 none))]),.iface 289 ((Value.agg #[Value.pointer (some (Addr.mk 31 188 none))]))]).run prog w=.ok (.value (.bool false)) w:=by
 rw[@run_callFunc_extern prog 340 _ (ReflectliteType.relation "AssignableTo" ReflectliteType.assignableTo) func340 (by kernel_rfl) (by kernel_rfl) (by kernel_rfl) (by kernel_rfl)];kernel_rfl
theorem s6(w:World):(callFunc 340 #[(Value.agg #[Value.pointer (some (Addr.mk 31 117 none))]),.iface 289 ((Value.agg #[Value.pointer (some (Addr.mk 31 188 none))]))]).run prog w=.ok (.value (.bool false)) w:=by
 rw[@run_callFunc_extern prog 340 _ (ReflectliteType.relation "AssignableTo" ReflectliteType.assignableTo) func340 (by kernel_rfl) (by kernel_rfl) (by kernel_rfl) (by kernel_rfl)];kernel_rfl
theorem s7(w:World):(callFunc 340 #[(Value.agg #[Value.pointer (some (Addr.mk 31 118 none))]),.iface 289 ((Value.agg #[Value.pointer (some (Addr.mk 31 188 none))]))]).run prog w=.ok (.value (.bool false)) w:=by
 rw[@run_callFunc_extern prog 340 _ (ReflectliteType.relation "AssignableTo" ReflectliteType.assignableTo) func340 (by kernel_rfl) (by kernel_rfl) (by kernel_rfl) (by kernel_rfl)];kernel_rfl
theorem td(w:World):(callFunc 340 #[(Value.agg #[Value.pointer (some (Addr.mk 31 188 none))]),.iface 289 ((Value.agg #[Value.pointer (some (Addr.mk 31 188 none))]))]).run prog w=.ok (.value (.bool true)) w:=by
 rw[@run_callFunc_extern prog 340 _ (ReflectliteType.relation "AssignableTo" ReflectliteType.assignableTo) func340 (by kernel_rfl) (by kernel_rfl) (by kernel_rfl) (by kernel_rfl)];kernel_rfl
theorem uO(a:Addr)(w:World):(ReflectliteValue.parts ((Value.agg #[Value.pointer (some (Addr.mk 31 189 none)),Value.pointer (some a),Value.int IntKind.u64 150]))).run prog w=.ok (some (189,a,150)) w:=by kernel_rfl
theorem Cw(a:Addr)(w:World):(ReflectliteValue.parts ((Value.agg #[Value.pointer (some (Addr.mk 31 188 none)),Value.pointer (some a),Value.int IntKind.u64 150]))).run prog w=.ok (some (188,a,150)) w:=by kernel_rfl
theorem Cz(a:Addr)(w:World):(ReflectliteValue.parts ((Value.agg #[Value.pointer (some (Addr.mk 31 188 none)),Value.pointer (some a),Value.int IntKind.u64 406]))).run prog w=.ok (some (188,a,406)) w:=by kernel_rfl
theorem Ci(w:World):(Rtype.elem? 189).run prog w=.ok (some 188) w:=by kernel_rfl
theorem Cl(p:Addr)(w:World):(ReflectliteValue.mk 188 p ReflectliteValue.flagAddr).run prog w=.ok ((Value.agg #[Value.pointer (some (Addr.mk 31 188 none)),Value.pointer (some p),Value.int IntKind.u64 406])) w:=by kernel_rfl
theorem Cf(w:World):(Rtype.directlyAssignable 188 188).run prog w=.ok true w:=by kernel_rfl
theorem qG(a p:Addr)(W:World)(ha:W.cell? a=some (.pointer (some p))):(callFunc 116 #[(Value.agg #[Value.pointer (some (Addr.mk 31 189 none)),Value.pointer (some a),Value.int IntKind.u64 150])]).run prog W=.ok (.value (.bool false)) W:=by
 rw[@run_callFunc_extern prog 116 _ (ReflectliteValue.method (ReflectliteValue.valueError "reflectlite.Value.IsNil" 0) ReflectliteValue.isNil) func116 (by kernel_rfl) (by kernel_rfl) (by kernel_rfl) (by kernel_rfl)];rw[rlm];simp only[Sem.run_bind,uO,Result.andThen];simp[ReflectliteValue.isNil,loadVar,isAgg,underlying,underlying189,ha,Result.andThen]
theorem yv(a p:Addr)(W:World)(ha:W.cell? a=some (.pointer (some p))):(callFunc 165 #[(Value.agg #[Value.pointer (some (Addr.mk 31 189 none)),Value.pointer (some a),Value.int IntKind.u64 150])]).run prog W=.ok (.value ((Value.agg #[Value.pointer (some (Addr.mk 31 188 none)),Value.pointer (some p),Value.int IntKind.u64 406]))) W:=by
 rw[@run_callFunc_extern prog 165 _ (ReflectliteValue.method (ReflectliteValue.valueError "reflectlite.Value.Elem" 0) ReflectliteValue.elem) func165 (by kernel_rfl) (by kernel_rfl) (by kernel_rfl) (by kernel_rfl)];rw[rlm];simp only[Sem.run_bind,uO,Result.andThen];simp[ReflectliteValue.elem,loadVar,isAgg,underlying,underlying189,ha,Result.andThen,Ci,Cl]
theorem yB(ta b e:Addr)(old:Value)(W:World)(hb:W.cell? b=some (.pointer (some e)))(ht:W.cell? ta=some old)(hf:W.frozen? ta=false):
  (callFunc 166 #[(Value.agg #[Value.pointer (some (Addr.mk 31 188 none)),Value.pointer (some ta),Value.int IntKind.u64 406]),(Value.agg #[Value.pointer (some (Addr.mk 31 188 none)),Value.pointer (some b),Value.int IntKind.u64 150])]).run prog W=.ok (.value (.tuple #[])) (W.setCell ta (.pointer (some e))):=by
 rw[@run_callFunc_extern prog 166 _ ReflectliteValue.set func166 (by kernel_rfl) (by kernel_rfl) (by kernel_rfl) (by kernel_rfl)];rw[rls];simp only[Sem.run_bind,Cw,Cz,Result.andThen];simp[ReflectliteValue.flagAddr,loadVar,isAgg,underlying,underlying188,hb,Result.andThen,Cf,storeVar,Value.cells,storeCells,Addr.add];rw[run_store prog W ta _ _ (by rfl)];simp[ht,hf]
theorem Bq(w:World)(a:Addr)(ks:List (Lk×ByteArray))(ev:Value)(hch:Chn w a ks ev)(tb:Nat)(old:Value)(va:Addr)(hva:w.cell? va=some (.pointer (some ⟨tb,0,none⟩)))(ht0:w.heap[tb]? =some (.cells #[old] 188)):
  Calls prog 117 #[ev,.iface 189 (.pointer (some ⟨tb,0,none⟩)),(Value.agg #[Value.pointer (some (Addr.mk 31 189 none)),Value.pointer (some va),Value.int IntKind.u64 150]),.iface 289 ((Value.agg #[Value.pointer (some (Addr.mk 31 188 none))]))] w fun e w'=>AsR Lk.srv 188 w tb (ks.find? (fun p=>p.1 == Lk.srv)) e w':=by
 have M:=vW;have N:=fK;have g3:=mw;have g4:=md;have O:=dD;have P:=cY;have Q:=cH;have B:Kp (fun k=>k=tb) w (w.alloc (.cells #[.pointer (some ⟨31,189,none⟩),.pointer (some va),.int .u64 150] 214)):=(Kp.refl _ w).alloc _;have j:=bk hva;have y:=ag ht0;have n:(w.alloc (.cells #[.pointer (some ⟨31,189,none⟩),.pointer (some va),.int .u64 150] 214)).cell? va=some (.pointer (some ⟨tb,0,none⟩)):=by rw[World.cell?_alloc_lt _ _ va j];exact hva
 have m:(w.alloc (.cells #[.pointer (some ⟨31,189,none⟩),.pointer (some va),.int .u64 150] 214)).heap[tb]? =some (.cells #[old] 188):=by rw[Below.heap_alloc _ _ _ y];exact ht0
 have f:Chn (w.alloc (.cells #[.pointer (some ⟨31,189,none⟩),.pointer (some va),.int .u64 150] 214)) a ks ev:=hch.kp ((Kp.refl _ w).alloc _);have z:=ae f;obtain⟨t0,u0,rfl⟩:=hch.iface;clear hch f hva ht0 j;go_enter func117,ntmps117;go_wp2;have A:=ae B;clear B;have x:(w.alloc (.cells #[.pointer (some ⟨31,189,none⟩),.pointer (some va),.int .u64 150] 214)).heap.size=w.heap.size+1:=by simp
 have J:(w.alloc (.cells #[.pointer (some ⟨31,189,none⟩),.pointer (some va),.int .u64 150] 214)).cell? ⟨w.heap.size,0,none⟩=some (.pointer (some ⟨31,189,none⟩)):=by simp
 have K:(w.alloc (.cells #[.pointer (some ⟨31,189,none⟩),.pointer (some va),.int .u64 150] 214)).cell? ⟨w.heap.size,1,none⟩=some (.pointer (some va)):=by simp
 have L:(w.alloc (.cells #[.pointer (some ⟨31,189,none⟩),.pointer (some va),.int .u64 150] 214)).cell? ⟨w.heap.size,2,none⟩=some (.int .u64 150):=by simp
 generalize w.alloc (.cells #[.pointer (some ⟨31,189,none⟩),.pointer (some va),.int .u64 150] 214)=w1 at *
 go_loopg [0] ks.length (fun gg v wr=>∃d:List (Lk×ByteArray),gg=d.length∧Chn w1 a d v∧d.find? (fun p=>p.1 == Lk.srv)=ks.find? (fun p=>p.1 == Lk.srv)∧wr=w1)
 case atStart=>exact⟨ks,rfl,z.o,rfl,rfl⟩
 case round=>
  obtain⟨d,h,I,c,rfl⟩:=hrel;clear z
  cases I with
  |nil=>
   have i:=ae c;clear h c;unfold ax;go_wp2;go_ret;exact AsR.none A.o i.o.symm
  |cons k ks2 b2 s ev2 hb2 hc2=>
   have b:=gj hb2;have q:=ae h;have H:=ae hb2;have i:=ae c;have g:=ae hc2;obtain⟨t2,u2,rfl⟩:=hc2.iface;clear h hc2 hb2 c
   cases k with
   |mem=>
    have r:=fq;have u:=s9;have D:=kF;have G:=dY;have C:=cW;simp only[Lk.off]at b;simp only[Lk.t];go_wp2;go_roundg ks2.length
    case measure=>rw[q.o];exact Nat.lt_succ_self _
    case rel=>exact⟨ks2,rfl,g.o,i.o,rfl⟩
   |doc=>
    have r:=fh;have u:=s6;have D:=ni;have G:=eF;have C:=dK;simp only[Lk.off]at b;simp only[Lk.t];go_wp2;go_roundg ks2.length
    case measure=>rw[q.o];exact Nat.lt_succ_self _
    case rel=>exact⟨ks2,rfl,g.o,i.o,rfl⟩
   |evt=>
    have r:=fj;have u:=s7;have D:=nj;have G:=eG;have C:=dL;simp only[Lk.off]at b;simp only[Lk.t];go_wp2;go_roundg ks2.length
    case measure=>rw[q.o];exact Nat.lt_succ_self _
    case rel=>exact⟨ks2,rfl,g.o,i.o,rfl⟩
   |srv=>
    have r:=ft;have u:=td;have R:=yv va ⟨tb,0,none⟩ wr n;have l:(wr.alloc (.cells #[.pointer (some ⟨b2,0,none⟩)] 188)).heap[tb]? =some (.cells #[old] 188):=by rw[Below.heap_alloc _ _ _ (by omega)];exact m
    obtain⟨E,F⟩:=aj l;have S:=yB ⟨tb,0,none⟩ ⟨w.heap.size+1,0,none⟩ ⟨b2,0,none⟩ old (wr.alloc (.cells #[.pointer (some ⟨b2,0,none⟩)] 188)) (by rw[←x];simp) E F;clear E F;simp only[Lk.off]at b;simp only[Lk.t];go_wp2;go_ret;rw[ip (ag m)];exact AsR.hit A.o i.o H.o l (by decide) (by decide)
theorem nF(w:World)(a:Addr)(ks:List (Lk×ByteArray))(ev:Value)(hch:Chn w a ks ev)(tb:Nat)(old:Value)(hg:w.cell? ⟨9,0,none⟩=some (.iface 289 ((Value.agg #[Value.pointer (some (Addr.mk 31 61 none))]))))(ht0:w.heap[tb]? =some (.cells #[old] 188)):
  Calls prog 67 #[ev,.iface 189 (.pointer (some ⟨tb,0,none⟩))] w fun e w'=>AsR Lk.srv 188 w tb (ks.find? (fun p=>p.1 == Lk.srv)) e w':=by
 have d:Kp (fun _=>False) w ((w.alloc (.cells #[.pointer (some ⟨tb,0,none⟩)] 189)).alloc (.cells #[.pointer (some ⟨31,189,none⟩),.pointer (some ⟨w.heap.size,0,none⟩),.int .u64 150] 214)):=((Kp.refl _ w).alloc _).alloc _;have l:=vV;have m:=tR;have n:=iK;have q:=iI;have s:=iJ;have t:=tP;have u:=tQ;have v:=tM;have i:=tN;have c:=bk hg;have b:((w.alloc (.cells #[.pointer (some ⟨tb,0,none⟩)] 189)).alloc (.cells #[.pointer (some ⟨31,189,none⟩),.pointer (some ⟨w.heap.size,0,none⟩),.int .u64 150] 214)).cell? ⟨w.heap.size,0,none⟩=some (.pointer (some ⟨tb,0,none⟩)):=by simp
 have j:=qG ⟨w.heap.size,0,none⟩ ⟨tb,0,none⟩ _ b;have k:((w.alloc (.cells #[.pointer (some ⟨tb,0,none⟩)] 189)).alloc (.cells #[.pointer (some ⟨31,189,none⟩),.pointer (some ⟨w.heap.size,0,none⟩),.int .u64 150] 214)).cell? ⟨9,0,none⟩=some (.iface 289 ((Value.agg #[Value.pointer (some (Addr.mk 31 61 none))]))):=by rw[World.cell?_alloc_lt _ _ ⟨9,0,none⟩ (by simp at c ⊢;omega),World.cell?_alloc_lt _ _ ⟨9,0,none⟩ c];exact hg
 have h:=ae (Bq _ a ks ev (hch.kp d) tb old ⟨w.heap.size,0,none⟩ b ((d.block _ (ag ht0) (by simp)).trans ht0));have g:=ae d;obtain⟨t0,u0,rfl⟩:=hch.iface;clear hch d b c ht0 hg;go_enter func67,ntmps67;go_wp2_with fail
 refine h.o.mono ?_;rintro e w' f;obtain⟨r,rfl⟩:=f.ret;go_wp2;go_ret;exact f.before g.o
theorem s8(w:World):(callFunc 340 #[(Value.agg #[Value.pointer (some (Addr.mk 31 116 none))]),.iface 289 ((Value.agg #[Value.pointer (some (Addr.mk 31 188 none))]))]).run prog w=.ok (.value (.bool false)) w:=by
 rw[@run_callFunc_extern prog 340 _ (ReflectliteType.relation "AssignableTo" ReflectliteType.assignableTo) func340 (by kernel_rfl) (by kernel_rfl) (by kernel_rfl) (by kernel_rfl)];kernel_rfl
theorem zy(v:Value)(xT:TypeId)(w:World):(Instr.typeAssert (.iface 116 v) xT 301 true).run prog w=.ok (.tuple #[.nilIface,.bool false]) w:=run_typeAssert_lacksB underlying301 (by kernel_rfl) (by kernel_rfl) v xT w
theorem yK(w:World)(fb:Nat)(kv:Value)(cb:Addr)(hf:w.heap[fb]? =some (.cells #[kv,ax cb] 239))(tb:Nat)(old:Value)(va:Addr)(hva:w.cell? va=some (.pointer (some ⟨tb,0,none⟩)))(ht0:w.heap[tb]? =some (.cells #[old] 188)):
  Calls prog 117 #[.iface 116 (.pointer (some ⟨fb,0,none⟩)),.iface 189 (.pointer (some ⟨tb,0,none⟩)),(Value.agg #[Value.pointer (some (Addr.mk 31 189 none)),Value.pointer (some va),Value.int IntKind.u64 150]),.iface 289 ((Value.agg #[Value.pointer (some (Addr.mk 31 188 none))]))] w fun e w'=>AsR Lk.srv 188 w tb none e w':=by
 have s:=vW;have t:=fK;have g3:=mw;have g4:=md;have u:=dD;have x:=cY;have y:=cH;have g:Kp (fun k=>k=tb) w (w.alloc (.cells #[.pointer (some ⟨31,189,none⟩),.pointer (some va),.int .u64 150] 214)):=(Kp.refl _ w).alloc _;have d:=bk hva;have f:=ag ht0;have h:(w.alloc (.cells #[.pointer (some ⟨31,189,none⟩),.pointer (some va),.int .u64 150] 214)).cell? va=some (.pointer (some ⟨tb,0,none⟩)):=by rw[World.cell?_alloc_lt _ _ va d];exact hva
 have n:(w.alloc (.cells #[.pointer (some ⟨31,189,none⟩),.pointer (some va),.int .u64 150] 214)).heap[tb]? =some (.cells #[old] 188):=by rw[Below.heap_alloc _ _ _ f];exact ht0
 have c:=((Kp.refl (fun _=>False) w).alloc (.cells #[.pointer (some ⟨31,189,none⟩),.pointer (some va),.int .u64 150] 214)).heap hf;have i:=ae c;clear hf c hva ht0 d;go_enter func117,ntmps117;go_wp2;have l:=ae g;clear g;have m:(w.alloc (.cells #[.pointer (some ⟨31,189,none⟩),.pointer (some va),.int .u64 150] 214)).heap.size=w.heap.size+1:=by simp
 have p:(w.alloc (.cells #[.pointer (some ⟨31,189,none⟩),.pointer (some va),.int .u64 150] 214)).cell? ⟨w.heap.size,0,none⟩=some (.pointer (some ⟨31,189,none⟩)):=by simp
 have q:(w.alloc (.cells #[.pointer (some ⟨31,189,none⟩),.pointer (some va),.int .u64 150] 214)).cell? ⟨w.heap.size,1,none⟩=some (.pointer (some va)):=by simp
 have r:(w.alloc (.cells #[.pointer (some ⟨31,189,none⟩),.pointer (some va),.int .u64 150] 214)).cell? ⟨w.heap.size,2,none⟩=some (.int .u64 150):=by simp
 generalize w.alloc (.cells #[.pointer (some ⟨31,189,none⟩),.pointer (some va),.int .u64 150] 214)=w1 at *;have b:w1.cell? ⟨fb,1,none⟩=some (ax cb):=by simp[World.cell?,i.o]
 unfold ax at b
 go_loopg [0] 1 (fun gg v wr=>wr=w1∧((gg=1∧v=.iface 116 (.pointer (some ⟨fb,0,none⟩)))∨(gg=0∧v=.iface 415 (.pointer (some cb)))))
 case atStart=>exact⟨rfl,Or.inl ⟨rfl,rfl⟩⟩
 case round=>
  obtain⟨rfl,⟨a,rfl⟩ | ⟨a,rfl⟩⟩:=hrel
  ·have z:=kV
   have A:=s8;have C:=zy;have D:=oi;have B:=lK;have j:=ae a;clear a;go_wp2;go_roundg 0
   case measure=>rw[j.o];omega
   case rel=>exact⟨rfl,Or.inr ⟨rfl,rfl⟩⟩
  ·clear a
   go_wp2;go_ret;exact AsR.none l.o rfl
theorem Bk(w:World)(fb:Nat)(kv:Value)(cb:Addr)(hf:w.heap[fb]? =some (.cells #[kv,ax cb] 239))(tb:Nat)(old:Value)(hg:w.cell? ⟨9,0,none⟩=some (.iface 289 ((Value.agg #[Value.pointer (some (Addr.mk 31 61 none))]))))(ht0:w.heap[tb]? =some (.cells #[old] 188)):
  Calls prog 67 #[.iface 116 (.pointer (some ⟨fb,0,none⟩)),.iface 189 (.pointer (some ⟨tb,0,none⟩))] w fun e w'=>AsR Lk.srv 188 w tb none e w':=by
 have c:Kp (fun _=>False) w ((w.alloc (.cells #[.pointer (some ⟨tb,0,none⟩)] 189)).alloc (.cells #[.pointer (some ⟨31,189,none⟩),.pointer (some ⟨w.heap.size,0,none⟩),.int .u64 150] 214)):=((Kp.refl _ w).alloc _).alloc _;have k:=vV;have l:=tR;have m:=iK;have n:=iI;have p:=iJ;have q:=tP;have s:=tQ;have t:=tM;have h:=tN;have b:=bk hg;have a:((w.alloc (.cells #[.pointer (some ⟨tb,0,none⟩)] 189)).alloc (.cells #[.pointer (some ⟨31,189,none⟩),.pointer (some ⟨w.heap.size,0,none⟩),.int .u64 150] 214)).cell? ⟨w.heap.size,0,none⟩=some (.pointer (some ⟨tb,0,none⟩)):=by simp
 have i:=qG ⟨w.heap.size,0,none⟩ ⟨tb,0,none⟩ _ a;have j:((w.alloc (.cells #[.pointer (some ⟨tb,0,none⟩)] 189)).alloc (.cells #[.pointer (some ⟨31,189,none⟩),.pointer (some ⟨w.heap.size,0,none⟩),.int .u64 150] 214)).cell? ⟨9,0,none⟩=some (.iface 289 ((Value.agg #[Value.pointer (some (Addr.mk 31 61 none))]))):=by rw[World.cell?_alloc_lt _ _ ⟨9,0,none⟩ (by simp at b ⊢;omega),World.cell?_alloc_lt _ _ ⟨9,0,none⟩ b];exact hg
 have g:=ae (yK _ fb kv cb (c.heap hf) tb old ⟨w.heap.size,0,none⟩ a ((c.block _ (ag ht0) (by simp)).trans ht0));have f:=ae c;clear hf c a b ht0 hg;go_enter func67,ntmps67;go_wp2_with fail
 refine g.o.mono ?_;rintro e w' d;obtain⟨r,rfl⟩:=d.ret;go_wp2;go_ret;exact d.before f.o
end
section
def lw:Bs:=[111,114,105,103,105,110]
def lA:Bs:=[115,101,110,100,101,114]
def kTs:Bs:=[116,115]
def eE(l:List (Bs×J)):Option (List Bs):=
 (bs (ai lw l)).bind fun o=>match ai lA l with | none=>some [o] | some j=>(bs (some j)).map fun s=>if s=o then [o] else [o,s]
def sgP(p:Bs×J):Option (Bs×Bs):=match p.2 with | .str t=>some (p.1,t) | _=>none
def aG(l:List (Bs×J))(s:Bs):List (Bs×Bs):=(aq s (aq kSig l)).filterMap sgP
structure Clm where
 server:Bs
 ts:Int
 msg:Bs
 sigs:List (Bs×Bs)
def dI(l:List (Bs×J)):Option (List Clm):=(eE l).bind fun ss=>(cC (ai kTs l)).map fun t=>ss.map fun s=>⟨s,t,aA l,aG l s⟩
def bM(text:Bs):Except Nat (List Clm):=match aM text with | .error n=>.error n | .ok l=>match dI l with | none=>.error 7 | some cs=>.ok cs
def et(st:Ldg)(c:Clm):Bool:=c.sigs.any fun p=>(bT st c.server p.1 c.ts).isSome
def b8(st:Ldg)(c:Clm):Bool:=decide (0 < c.sigs.length) && !et st c
def okS(st:Ldg)(c:Clm)(p:Bs×Bs):Bool:=match bT st c.server p.1 c.ts with | some k=>decide (p.2=(cQ ⟨k.toArray⟩ ⟨c.msg.toArray⟩).data.toList) | none=>false
theorem np{st:Ldg}{c:Clm}{p:Bs×Bs}(h:bT st c.server p.1 c.ts=none):okS st c p=false:=by unfold okS;rw[h]
theorem rI{st:Ldg}{c:Clm}{p:Bs×Bs}{k tl:Bs}(h:bT st c.server p.1 c.ts=some k)(ht:cQ ⟨k.toArray⟩ ⟨c.msg.toArray⟩=⟨tl.toArray⟩):okS st c p=decide (p.2=tl):=by
 unfold okS;rw[h];simp only[ht]
def dQ(st:Ldg)(c:Clm):Bool:=c.sigs.any (okS st c)
def cR(st:Ldg)(c:Clm):Nat×Bs:=if dQ st c then (0,[]) else if b8 st c then (8,c.server) else (5,c.server)
structure Rpl where
 src:Bs
 srv:Bs
 text:Bs
 fails:Bool
def eR(rs:List Rpl)(source server:Bs):Option Bs:=(rs.find? fun r=>decide (r.src=source) && decide (r.srv=server)).bind fun r=>if r.fails then none else some r.text
def bf(rs:List Rpl)(now:Int)(srv:Bs)(st:Ldg)(src:Bs):Bool×Ldg:=
 match eR rs src srv with
 |none=>(false,st)
 |some t=>match aZ t with
  |.error _=>(false,st)
  |.ok (sn,_,ks)=>if sn=srv then (decide ((bR st sn ks t now).1=0),(bR st sn ks t now).2) else (false,st)
def bF(rs:List Rpl)(now:Int)(c:Clm):Ldg→List Bs→Nat→Nat×Bool×Ldg
 |st,[],n=>(n,false,st)
 |st,src :: r,n=>if (bf rs now c.server st src).1 && et (bf rs now c.server st src).2 c then (n+1,true,(bf rs now c.server st src).2) else bF rs now c (bf rs now c.server st src).2 r (n+1)
def cT(srv:Bs)(sources:List Bs):List Bs:=srv :: sources.filter fun s=>decide (s≠srv)
def eO(st:Ldg)(srv:Bs)(now:Int):Ldg:={ st with asked:=fun s=>if s=srv then some now else st.asked s }
def cS(st:Ldg)(srv:Bs)(now:Int):Bool:=match st.asked srv with | some t=>decide (now < t+50) | none=>false
def dy(rs:List Rpl)(now:Int)(sources:List Bs)(st:Ldg)(c:Clm):Nat×Ldg:=
 if (bF rs now c st (cT c.server sources) 0).2.1 then ((bF rs now c st (cT c.server sources) 0).1,(bF rs now c st (cT c.server sources) 0).2.2)
 else ((bF rs now c st (cT c.server sources) 0).1,eO (bF rs now c st (cT c.server sources) 0).2.2 c.server now)
def df(rs:List Rpl)(now:Int)(sources:List Bs)(st:Ldg)(c:Clm):Nat×Ldg:=if b8 st c && !cS st c.server now then dy rs now sources st c else (0,st)
def dV(rs:List Rpl)(now:Int)(sources:List Bs):Ldg→List Clm→Nat→((Nat×Bs)×Nat)×Ldg
 |st,[],n=>(((0,[]),n),st)
 |st,c :: r,n=>if (cR (df rs now sources st c).2 c).1=0 then dV rs now sources (df rs now sources st c).2 r (n+(df rs now sources st c).1) else ((cR (df rs now sources st c).2 c,n+(df rs now sources st c).1),(df rs now sources st c).2)
def bS(rs:List Rpl)(now:Int)(sources:List Bs)(st:Ldg)(text:Bs):((Nat×Bs)×Nat)×Ldg:=match bM text with | .error n=>(((n,[]),0),st) | .ok cs=>dV rs now sources st cs 0
end
section
open Go Go.RowKit Go.Maps Go.WideMaps Go.MuLone
attribute [local go_sem] Oper.semAt_some
theorem Al{a t:Int}(h:¬a < t)(h0 : -9223372036854775808≤a)(h1:a≤9223372036854775807)(t0 : -9223372036854775808≤t):IntKind.u64.wrap (IntKind.u64.wrap a - IntKind.u64.wrap t)=a - t:=by
 simp only[IntKind.wrap,IntKind.signed,IntKind.bits,Bool.false_and,Bool.false_eq_true,if_false];rw[←Int.sub_emod];exact Int.emod_eq_of_lt (by omega) (by omega)
theorem yf(w:World)(F:Nat→Prop)(kb:Nat)(st:Ldg)(c:Nat)(h:KN w F kb st c)(s:Bs)(hs:s.length≤2000000)(now:Int)(h0 : -9223372036854775808≤now)(h1:now≤9223372036854775807)(hat:∀s t,st.asked s=some t→ -9223372036854775808≤t∧t≤9223372036854775807):
  Calls prog 103 #[.pointer (some ⟨kb,0,none⟩),.string ⟨s.toArray⟩,.int .i64 now] w fun e w'=>e=.returned (.bool (cS st s now))∧Kp (fun _=>False) w w':=by
 obtain⟨C,m,E,n,r,u,D,d⟩:=h;obtain⟨j,v,x,k⟩:=gu d.kblk;obtain⟨y,z,A,B⟩:=fy d.kblk;have a:=gG underlying169 EL (held kb w) n m n.length s (by omega) (ay d.mi (bW (bw d.mi d.kblk)));rw[d.vain s]at a;have b:=ae (fun X (hX:Kp (fun _=>False) (held kb w) X)=>kx d.kblk hX);clear d
 cases ha:st.asked s with
 |none=>
  rw[ha]at a;replace a:(Instr.lookup 169 (.map (some m)) (.string ⟨s.toArray⟩) true).run prog (held kb w)=.ok (.tuple #[.int .i64 0,.bool false]) (held kb w):=a;have g:Hid (cS st s now=false):=by show _=_;unfold cS;rw[ha]
  unfold held at *;clear ha hat;go_enter_defers func103,ntmps103
  go_wp2_with (go_at_call 96;refine (lock_free Tryz.muLib ⟨kb,0,none⟩ _ j k).mono ?_;rintro e w' ⟨rfl,rfl⟩)
  refine leaves_cons (f:=97) (args:= #[.pointer (some ⟨kb,0,none⟩)]) (by simp) (by simp[go_sem]) ?_;refine (unlock_deferred Tryz.muLib ⟨kb,0,none⟩ .returning _ (b.o _ (Kp.refl _ _)).1 (b.o _ (Kp.refl _ _)).2.1).mono ?_;rintro e p w'' ⟨rfl,rfl,rfl⟩;rw[g.o];exact⟨_,results_tmp rfl _ _ _,rfl,(b.o _ (Kp.refl _ _)).2.2⟩
 |some t=>
  rw[ha]at a;replace a:(Instr.lookup 169 (.map (some m)) (.string ⟨s.toArray⟩) true).run prog (held kb w)=.ok (.tuple #[.int .i64 t,.bool true]) (held kb w):=a;obtain⟨t0,G⟩:=hat s t ha;have g:Hid (cS st s now=decide (now < t+50)):=by show _=_;unfold cS;rw[ha]
  unfold held at *;clear ha hat;by_cases i:now < t
  ·have l:t > now:=i
   go_enter_defers func103,ntmps103
   go_wp2_with (go_at_call 96;refine (lock_free Tryz.muLib ⟨kb,0,none⟩ _ j k).mono ?_;rintro e w' ⟨rfl,rfl⟩)
   refine leaves_cons (f:=97) (args:= #[.pointer (some ⟨kb,0,none⟩)]) (by simp) (by simp[go_sem]) ?_;refine (unlock_deferred Tryz.muLib ⟨kb,0,none⟩ .returning _ (b.o _ (Kp.refl _ _)).1 (b.o _ (Kp.refl _ _)).2.1).mono ?_;rintro e p w'' ⟨rfl,rfl,rfl⟩;rw[g.o];refine⟨_,results_tmp rfl _ _ _, ?_,(b.o _ (Kp.refl _ _)).2.2⟩;simp;omega
  ·have l:¬t > now:=i
   go_enter_defers func103,ntmps103
   go_wp2_with (go_at_call 96;refine (lock_free Tryz.muLib ⟨kb,0,none⟩ _ j k).mono ?_;rintro e w' ⟨rfl,rfl⟩)
   refine leaves_cons (f:=97) (args:= #[.pointer (some ⟨kb,0,none⟩)]) (by simp) (by simp[go_sem]) ?_;refine (unlock_deferred Tryz.muLib ⟨kb,0,none⟩ .returning _ (b.o _ (Kp.refl _ _)).1 (b.o _ (Kp.refl _ _)).2.1).mono ?_;rintro e p w'' ⟨rfl,rfl,rfl⟩;rw[g.o];refine⟨_,results_tmp rfl _ _ _, ?_,(b.o _ (Kp.refl _ _)).2.2⟩;show Ending.returned (.bool (decide (now < t) || decide (IntKind.u64.wrap (IntKind.u64.wrap now - IntKind.u64.wrap t) < 50)))=_
   rw[Al (Int.not_lt.2 i) h0 h1 t0];have q:decide (now < t)=false:=by simpa using i
   rw[q];congr 2
   simp;omega
theorem KNs.vained{w w':World}{F:Nat→Prop}{kb mb ib:Nat}{sm im:List (Bs×Value)}{Bf Qf:Bs→Nat}{qm:Bs→List (Bs×Value)}{st:Ldg}{c n:Nat}{s:Bs}{now:Int}(h:KNs w F kb mb ib sm im Bf Qf qm st c)
  (hK:∀k,k < w.heap.size→k≠ib→w'.heap[k]? =w.heap[k]?) (hm:w'.ownsMap prog 9 Rv ib n (dm (aC s (.int .i64 now) im))):KN w' F kb (eO st s now) (c+1):=by
 have f:=h.lt;have d:kb≠ib:=fun e=>bw h.mi h.kblk e.symm
 have l:=mZ s (.int .i64 now) im;refine⟨mb,ib,sm,aC s (.int .i64 now) im,Bf,Qf,qm,(hK kb f.1 d).trans h.kblk,ay h.ms (hK mb f.2.1 h.mbib),d9 hm,h.ss,gC _ _ _ h.si,h.look, ?_, ?_,h.non,h.inj,h.off,h.mbib,by have:=h.lsm;omega,by have:=h.lim;omega,h.fk,h.fm,h.fi,h.fs⟩
 ·intro a
  rw[lF];show _=(if a=s then some now else st.asked a).map _
  by_cases j:a=s
  ·simp[j]
  ·simp only[if_neg j]
   exact h.vain a
 ·intro a t b
  have g:=f.2.2.2 a t b;have i:=(h.srv a t b).1;refine⟨i.frame (hK _ g.1 (fun e=>bw h.mi i.blk e.symm)) (hK _ g.2 (h.off a t b).2),by have:=(h.srv a t b).2;omega⟩
theorem zb(w:World)(F:Nat→Prop)(kb:Nat)(st:Ldg)(c:Nat)(h:KN w F kb st c)(s:Bs)(hs:s.length≤2000000)(now:Int)(hc:c≤900000000):
  Calls prog 106 #[.pointer (some ⟨kb,0,none⟩),.string ⟨s.toArray⟩,.int .i64 now] w fun e w'=>e=.returned (.tuple #[])∧Kp F w w'∧KN w' F kb (eO st s now) (c+1):=by
 obtain⟨I,m,K,n,z,A,J,a⟩:=h;obtain⟨v,B,C,x⟩:=gu a.kblk;obtain⟨D,E,G,H⟩:=fy a.kblk;have i:=a.lim;have l:(held kb w).ownsMap prog 9 Rv m n.length (dm n):=ay a.mi (bW (bw a.mi a.kblk));obtain⟨u,y,q,t⟩:=l.update ed underlying169 (by unfold maxLen;omega) (dj (show s.length≤139000000000000 by omega)) (show Rv (.int .i64 now)=some (.held (.int .i64 now),[]) from rfl);rw[iB s _ n a.si]at q;have d:kb≠m:=fun e=>bw a.mi a.kblk e.symm
 have r:Kp (fun j=>j=m) (held kb w) u:=(Kp.refl _ _).grown t (fun j e _=>by cases e;rfl);have p:=mF a.kblk (S:=fun j=>j=m) (by exact d) r;have b:KN (u.setCell ⟨kb,0,none⟩ (.int .i32 0)) F kb (eO st s now) (c+1):=a.vained (fun k h1 h2=>p.2.2.block k h1 h2) (ay q (af (by exact Ne.symm d)));have g:=ae (An p (An b a.fi));clear a l q t r p b i d;unfold held at *;go_enter_defers func106,ntmps106
 go_wp2_with (go_at_call 96;refine (lock_free Tryz.muLib ⟨kb,0,none⟩ _ v x).mono ?_;rintro e w' ⟨rfl,rfl⟩)
 refine leaves_cons (f:=97) (args:= #[.pointer (some ⟨kb,0,none⟩)]) (by simp) (by simp[go_sem]) ?_;refine (unlock_deferred Tryz.muLib ⟨kb,0,none⟩ .returning _ g.o.1.1 g.o.1.2.1).mono ?_;rintro e L w'' ⟨rfl,rfl,rfl⟩;refine⟨_,results_none rfl _ _ _,rfl,g.o.1.2.2.mono (fun j _ e=>by rw[e];exact g.o.2.2),g.o.2.1⟩
end
end Go.Proofs.YtocligpfmfmihaaGreatDoor
