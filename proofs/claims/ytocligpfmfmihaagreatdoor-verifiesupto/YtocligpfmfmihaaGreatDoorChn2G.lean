import Derived.Test.YtocligpfmfmihaaGreatDoorPn2G
set_option maxHeartbeats 4000000
set_option maxRecDepth 20000
namespace Go.Proofs.YtocligpfmfmihaaGreatDoor
open Go.Proofs.Tryz
section
open Go Go.RowKit Go.Extern.Stop Go.Stop Go.Extern
def AsR(T:Lk)(pt:TypeId)(w:World)(tb:Nat)(o:Option (Lk×ByteArray))(e:Ending)(w':World):Prop:=Kp (fun k=>k=tb) w w'∧match o with
 |none=>e=.returned (.bool false)
 |some p=>e=.returned (.bool true)∧∃b ev,w'.heap[tb]? =some (.cells #[.pointer (some ⟨b,0,none⟩)] pt)∧w'.heap[b]? =some (.cells (T.cs p.2 ev) T.bt)
theorem AsR.ret{T:Lk}{pt:TypeId}{w w':World}{tb:Nat}{o:Option (Lk×ByteArray)}{e:Ending}(h:AsR T pt w tb o e w'):∃b,e=.returned (.bool b):=by
 cases o with
 |none=>exact⟨_,h.2⟩
 |some p=>exact⟨_,h.2.1⟩
theorem AsR.before{T:Lk}{pt:TypeId}{w0 w w':World}{tb:Nat}{o:Option (Lk×ByteArray)}{e:Ending}(h:AsR T pt w tb o e w')(hk:Kp (fun _=>False) w0 w):AsR T pt w0 tb o e w':=
 ⟨(hk.mono (fun _ _ h=>h.elim)).trans h.1,h.2⟩
theorem AsR.none{T:Lk}{pt:TypeId}{w w':World}{tb:Nat}{o:Option (Lk×ByteArray)}(hk:Kp (fun k=>k=tb) w w')(ho:o=Option.none):AsR T pt w tb o (.returned (.bool false)) w':=by
 rw[ho];exact⟨hk,rfl⟩
theorem ip{X:World}{q:Nat}{v:Value}{o:Obj}(h:q < X.heap.size):(X.setCell ⟨q,0,Option.none⟩ v).alloc o=(X.alloc o).setCell ⟨q,0,Option.none⟩ v:=by
 unfold World.setCell World.alloc;congr 1
 apply Array.ext_getElem?;intro j;simp only[Array.getElem?_push,Array.getElem?_modify,Array.size_modify];by_cases a:j=X.heap.size
 ·subst a
  have:q≠X.heap.size:=by omega
  simp[this]
 ·simp[a]
theorem AsR.hit{T:Lk}{pt U:TypeId}{w w1:World}{tb b:Nat}{old:Value}{o:Option (Lk×ByteArray)}{s:ByteArray}{ev:Value}{ks:List (Lk×ByteArray)}(hk:Kp (fun k=>k=tb) w w1)(ho:((T,s) :: ks).find? (fun p=>p.1 == T)=o)(hb:w1.heap[b]? =some (.cells (T.cs s ev) T.bt))(c:(w1.alloc (.cells #[.pointer (some ⟨b,0,Option.none⟩)] U)).heap[tb]? =some (.cells #[old] pt))(hne:T.bt≠pt)(_:pt=U):AsR T pt w tb o (.returned (.bool true)) ((w1.alloc (.cells #[.pointer (some ⟨b,0,Option.none⟩)] U)).setCell ⟨tb,0,Option.none⟩ (.pointer (some ⟨b,0,Option.none⟩))):=by
 have e:o=some (T,s):=by rw[←ho];simp
 have a:(w1.alloc (.cells #[.pointer (some ⟨b,0,Option.none⟩)] U)).heap[b]? =some (.cells (T.cs s ev) T.bt):=by rw[Below.heap_alloc _ _ _ (ag hb)];exact hb
 have d:b≠tb:=by
  rintro rfl;rw[a]at c;injection c with c
  injection c with _ f _
  exact hne f
 rw[e];refine⟨(hk.alloc _).setCell (fun _=>rfl) _,rfl,b,ev,d8 c _, ?_⟩;rw[af (by exact d)];exact a
theorem CX(t:Addr)(w:World):(callFunc 114 #[.iface 121 (.pointer (some t))]).run prog w=.ok (.value ((Value.agg #[Value.pointer (some (Addr.mk 31 121 none)),Value.pointer (some ⟨w.heap.size,0,none⟩),Value.int IntKind.u64 150]))) (w.alloc (.cells #[.pointer (some t)] 121)):=by
 rw[@run_callFunc_extern prog 114 _ (fun args=>ReflectliteValue.unpack (args.getD 0 (.tuple #[]))) func114 (by kernel_rfl) (by kernel_rfl) (by kernel_rfl) (by kernel_rfl)];kernel_rfl
theorem C0(t:Addr)(w:World):(callFunc 114 #[.iface 116 (.pointer (some t))]).run prog w=.ok (.value ((Value.agg #[Value.pointer (some (Addr.mk 31 116 none)),Value.pointer (some ⟨w.heap.size,0,none⟩),Value.int IntKind.u64 150]))) (w.alloc (.cells #[.pointer (some t)] 116)):=by
 rw[@run_callFunc_extern prog 114 _ (fun args=>ReflectliteValue.unpack (args.getD 0 (.tuple #[]))) func114 (by kernel_rfl) (by kernel_rfl) (by kernel_rfl) (by kernel_rfl)];kernel_rfl
theorem AZ(a:Addr)(w:World):(callFunc 115 #[(Value.agg #[Value.pointer (some (Addr.mk 31 121 none)),Value.pointer (some a),Value.int IntKind.u64 150])]).run prog w=.ok (.value (.iface 289 ((Value.agg #[Value.pointer (some (Addr.mk 31 121 none))])))) w:=by
 rw[@run_callFunc_extern prog 115 _ (ReflectliteValue.methodAny (ReflectliteValue.valueError "reflectlite.Value.Type" 0) (fun t _ _ _=>ReflectliteType.toType t)) func115 (by kernel_rfl) (by kernel_rfl) (by kernel_rfl) (by kernel_rfl)];kernel_rfl
theorem AR(w:World):(callFunc 317 #[.pointer (some ⟨31,121,none⟩)]).run prog w=.ok (.value (.int .u8 22)) w:=by
 rw[@run_callFunc_extern prog 317 _ (ReflectliteType.abiMethod fun t=>do pure (.int .u8 (←Rtype.kind t))) func317 (by kernel_rfl) (by kernel_rfl) (by kernel_rfl) (by kernel_rfl)];kernel_rfl
theorem AW(w:World):(callFunc 317 #[.pointer (some ⟨31,116,none⟩)]).run prog w=.ok (.value (.int .u8 22)) w:=by
 rw[@run_callFunc_extern prog 317 _ (ReflectliteType.abiMethod fun t=>do pure (.int .u8 (←Rtype.kind t))) func317 (by kernel_rfl) (by kernel_rfl) (by kernel_rfl) (by kernel_rfl)];kernel_rfl
theorem AL(w:World):(callFunc 342 #[(Value.agg #[Value.pointer (some (Addr.mk 31 121 none))])]).run prog w=.ok (.value (.iface 289 ((Value.agg #[Value.pointer (some (Addr.mk 31 116 none))])))) w:=by
 rw[@run_callFunc_extern prog 342 _ (ReflectliteType.method ReflectliteType.elem) func342 (by kernel_rfl) (by kernel_rfl) (by kernel_rfl) (by kernel_rfl)];kernel_rfl
theorem AO(w:World):(callFunc 343 #[(Value.agg #[Value.pointer (some (Addr.mk 31 116 none))]),.iface 289 ((Value.agg #[Value.pointer (some (Addr.mk 31 61 none))]))]).run prog w=.ok (.value (.bool true)) w:=by
 rw[@run_callFunc_extern prog 343 _ (ReflectliteType.relation "Implements" ReflectliteType.implements_) func343 (by kernel_rfl) (by kernel_rfl) (by kernel_rfl) (by kernel_rfl)];kernel_rfl
theorem sW(w:World):(callFunc 340 #[(Value.agg #[Value.pointer (some (Addr.mk 31 415 none))]),.iface 289 ((Value.agg #[Value.pointer (some (Addr.mk 31 116 none))]))]).run prog w=.ok (.value (.bool false)) w:=by
 rw[@run_callFunc_extern prog 340 _ (ReflectliteType.relation "AssignableTo" ReflectliteType.assignableTo) func340 (by kernel_rfl) (by kernel_rfl) (by kernel_rfl) (by kernel_rfl)];kernel_rfl
theorem sY(w:World):(callFunc 340 #[(Value.agg #[Value.pointer (some (Addr.mk 31 250 none))]),.iface 289 ((Value.agg #[Value.pointer (some (Addr.mk 31 116 none))]))]).run prog w=.ok (.value (.bool false)) w:=by
 rw[@run_callFunc_extern prog 340 _ (ReflectliteType.relation "AssignableTo" ReflectliteType.assignableTo) func340 (by kernel_rfl) (by kernel_rfl) (by kernel_rfl) (by kernel_rfl)];kernel_rfl
theorem sV(w:World):(callFunc 340 #[(Value.agg #[Value.pointer (some (Addr.mk 31 117 none))]),.iface 289 ((Value.agg #[Value.pointer (some (Addr.mk 31 116 none))]))]).run prog w=.ok (.value (.bool false)) w:=by
 rw[@run_callFunc_extern prog 340 _ (ReflectliteType.relation "AssignableTo" ReflectliteType.assignableTo) func340 (by kernel_rfl) (by kernel_rfl) (by kernel_rfl) (by kernel_rfl)];kernel_rfl
theorem sX(w:World):(callFunc 340 #[(Value.agg #[Value.pointer (some (Addr.mk 31 118 none))]),.iface 289 ((Value.agg #[Value.pointer (some (Addr.mk 31 116 none))]))]).run prog w=.ok (.value (.bool false)) w:=by
 rw[@run_callFunc_extern prog 340 _ (ReflectliteType.relation "AssignableTo" ReflectliteType.assignableTo) func340 (by kernel_rfl) (by kernel_rfl) (by kernel_rfl) (by kernel_rfl)];kernel_rfl
theorem sZ(w:World):(callFunc 340 #[(Value.agg #[Value.pointer (some (Addr.mk 31 188 none))]),.iface 289 ((Value.agg #[Value.pointer (some (Addr.mk 31 116 none))]))]).run prog w=.ok (.value (.bool false)) w:=by
 rw[@run_callFunc_extern prog 340 _ (ReflectliteType.relation "AssignableTo" ReflectliteType.assignableTo) func340 (by kernel_rfl) (by kernel_rfl) (by kernel_rfl) (by kernel_rfl)];kernel_rfl
theorem Ct(a:Addr)(w:World):(ReflectliteValue.parts ((Value.agg #[Value.pointer (some (Addr.mk 31 121 none)),Value.pointer (some a),Value.int IntKind.u64 150]))).run prog w=.ok (some (121,a,150)) w:=by kernel_rfl
theorem yy(a p:Addr)(W:World)(ha:W.cell? a=some (.pointer (some p))):(callFunc 116 #[(Value.agg #[Value.pointer (some (Addr.mk 31 121 none)),Value.pointer (some a),Value.int IntKind.u64 150])]).run prog W=.ok (.value (.bool false)) W:=by
 rw[@run_callFunc_extern prog 116 _ (ReflectliteValue.method (ReflectliteValue.valueError "reflectlite.Value.IsNil" 0) ReflectliteValue.isNil) func116 (by kernel_rfl) (by kernel_rfl) (by kernel_rfl) (by kernel_rfl)];rw[rlm];simp only[Sem.run_bind,Ct,Result.andThen];simp[ReflectliteValue.isNil,loadVar,isAgg,underlying,underlying121,ha,Result.andThen]
theorem Bp(w:World)(a:Addr)(ks:List (Lk×ByteArray))(ev:Value)(hch:Chn w a ks ev)(tb:Nat)(old:Value)(va:Addr)(hva:w.cell? va=some (.pointer (some ⟨tb,0,none⟩)))(ht0:w.heap[tb]? =some (.cells #[old] 116)):
  Calls prog 117 #[ev,.iface 121 (.pointer (some ⟨tb,0,none⟩)),(Value.agg #[Value.pointer (some (Addr.mk 31 121 none)),Value.pointer (some va),Value.int IntKind.u64 150]),.iface 289 ((Value.agg #[Value.pointer (some (Addr.mk 31 116 none))]))] w fun e w'=>AsR Lk.mem 116 w tb none e w':=by
 have I:=C0;have J:=fK;have g3:=sW;have g4:=md;have K:=dD;have L:=cY;have M:=cH;have x:Kp (fun k=>k=tb) w (w.alloc (.cells #[.pointer (some ⟨31,121,none⟩),.pointer (some va),.int .u64 150] 214)):=(Kp.refl _ w).alloc _;have i:=bk hva;have n:=ag ht0;have y:(w.alloc (.cells #[.pointer (some ⟨31,121,none⟩),.pointer (some va),.int .u64 150] 214)).cell? va=some (.pointer (some ⟨tb,0,none⟩)):=by rw[World.cell?_alloc_lt _ _ va i];exact hva
 have D:(w.alloc (.cells #[.pointer (some ⟨31,121,none⟩),.pointer (some va),.int .u64 150] 214)).heap[tb]? =some (.cells #[old] 116):=by rw[Below.heap_alloc _ _ _ n];exact ht0
 have f:Chn (w.alloc (.cells #[.pointer (some ⟨31,121,none⟩),.pointer (some va),.int .u64 150] 214)) a ks ev:=hch.kp ((Kp.refl _ w).alloc _);have u:=ae f;obtain⟨t0,u0,rfl⟩:=hch.iface;clear hch f hva ht0 i;go_enter func117,ntmps117;go_wp2;have A:=ae x;clear x;have C:(w.alloc (.cells #[.pointer (some ⟨31,121,none⟩),.pointer (some va),.int .u64 150] 214)).heap.size=w.heap.size+1:=by simp
 have E:(w.alloc (.cells #[.pointer (some ⟨31,121,none⟩),.pointer (some va),.int .u64 150] 214)).cell? ⟨w.heap.size,0,none⟩=some (.pointer (some ⟨31,121,none⟩)):=by simp
 have F:(w.alloc (.cells #[.pointer (some ⟨31,121,none⟩),.pointer (some va),.int .u64 150] 214)).cell? ⟨w.heap.size,1,none⟩=some (.pointer (some va)):=by simp
 have G:(w.alloc (.cells #[.pointer (some ⟨31,121,none⟩),.pointer (some va),.int .u64 150] 214)).cell? ⟨w.heap.size,2,none⟩=some (.int .u64 150):=by simp
 generalize w.alloc (.cells #[.pointer (some ⟨31,121,none⟩),.pointer (some va),.int .u64 150] 214)=w1 at *
 go_loopg [0] ks.length (fun gg v wr=>∃h:List (Lk×ByteArray),gg=h.length∧Chn w1 a h v∧True∧wr=w1)
 case atStart=>exact⟨ks,rfl,u.o,trivial,rfl⟩
 case round=>
  obtain⟨h,g,B,d,rfl⟩:=hrel;clear u
  cases B with
  |nil=>
   have z:=ae d;clear g d;unfold ax;go_wp2;go_ret;exact AsR.none A.o rfl
  |cons k ks2 b2 s ev2 hb2 hc2=>
   have b:=gj hb2;have j:=ae g;have H:=ae hb2;have z:=ae d;have c:=ae hc2;obtain⟨t2,u2,rfl⟩:=hc2.iface;clear g hc2 hb2 d
   cases k with
   |mem=>
    have l:=fq;have m:=sY;have q:=kF;have r:=dY;have p:=cW;simp only[Lk.off]at b;simp only[Lk.t];go_wp2;go_roundg ks2.length
    case measure=>rw[j.o];exact Nat.lt_succ_self _
    case rel=>exact⟨ks2,rfl,c.o,trivial,rfl⟩
   |doc=>
    have l:=fh;have m:=sV;have q:=ni;have r:=eF;have p:=dK;simp only[Lk.off]at b;simp only[Lk.t];go_wp2;go_roundg ks2.length
    case measure=>rw[j.o];exact Nat.lt_succ_self _
    case rel=>exact⟨ks2,rfl,c.o,trivial,rfl⟩
   |evt=>
    have l:=fj;have m:=sX;have q:=nj;have r:=eG;have p:=dL;simp only[Lk.off]at b;simp only[Lk.t];go_wp2;go_roundg ks2.length
    case measure=>rw[j.o];exact Nat.lt_succ_self _
    case rel=>exact⟨ks2,rfl,c.o,trivial,rfl⟩
   |srv=>
    have l:=ft;have m:=sZ;have q:=nk;have r:=eH;have p:=dM;simp only[Lk.off]at b;simp only[Lk.t];go_wp2;go_roundg ks2.length
    case measure=>rw[j.o];exact Nat.lt_succ_self _
    case rel=>exact⟨ks2,rfl,c.o,trivial,rfl⟩
theorem C6(w:World)(a:Addr)(ks:List (Lk×ByteArray))(ev:Value)(hch:Chn w a ks ev)(tb:Nat)(old:Value)(hg:w.cell? ⟨9,0,none⟩=some (.iface 289 ((Value.agg #[Value.pointer (some (Addr.mk 31 61 none))]))))(ht0:w.heap[tb]? =some (.cells #[old] 116)):
  Calls prog 67 #[ev,.iface 121 (.pointer (some ⟨tb,0,none⟩))] w fun e w'=>AsR Lk.mem 116 w tb none e w':=by
 have d:Kp (fun _=>False) w ((w.alloc (.cells #[.pointer (some ⟨tb,0,none⟩)] 121)).alloc (.cells #[.pointer (some ⟨31,121,none⟩),.pointer (some ⟨w.heap.size,0,none⟩),.int .u64 150] 214)):=((Kp.refl _ w).alloc _).alloc _;have l:=CX;have m:=AZ;have n:=iK;have p:=iI;have q:=iJ;have s:=AR;have t:=AW;have u:=AL;have i:=AO;have c:=bk hg;have b:((w.alloc (.cells #[.pointer (some ⟨tb,0,none⟩)] 121)).alloc (.cells #[.pointer (some ⟨31,121,none⟩),.pointer (some ⟨w.heap.size,0,none⟩),.int .u64 150] 214)).cell? ⟨w.heap.size,0,none⟩=some (.pointer (some ⟨tb,0,none⟩)):=by simp
 have j:=yy ⟨w.heap.size,0,none⟩ ⟨tb,0,none⟩ _ b;have k:((w.alloc (.cells #[.pointer (some ⟨tb,0,none⟩)] 121)).alloc (.cells #[.pointer (some ⟨31,121,none⟩),.pointer (some ⟨w.heap.size,0,none⟩),.int .u64 150] 214)).cell? ⟨9,0,none⟩=some (.iface 289 ((Value.agg #[Value.pointer (some (Addr.mk 31 61 none))]))):=by rw[World.cell?_alloc_lt _ _ ⟨9,0,none⟩ (by simp at c ⊢;omega),World.cell?_alloc_lt _ _ ⟨9,0,none⟩ c];exact hg
 have h:=ae (Bp _ a ks ev (hch.kp d) tb old ⟨w.heap.size,0,none⟩ b ((d.block _ (ag ht0) (by simp)).trans ht0));have g:=ae d;obtain⟨t0,u0,rfl⟩:=hch.iface;clear hch d b c ht0 hg;go_enter func67,ntmps67;go_wp2_with fail
 refine h.o.mono ?_;rintro e w' f;obtain⟨r,rfl⟩:=f.ret;go_wp2;go_ret;exact f.before g.o
theorem CV(t:Addr)(w:World):(callFunc 114 #[.iface 122 (.pointer (some t))]).run prog w=.ok (.value ((Value.agg #[Value.pointer (some (Addr.mk 31 122 none)),Value.pointer (some ⟨w.heap.size,0,none⟩),Value.int IntKind.u64 150]))) (w.alloc (.cells #[.pointer (some t)] 122)):=by
 rw[@run_callFunc_extern prog 114 _ (fun args=>ReflectliteValue.unpack (args.getD 0 (.tuple #[]))) func114 (by kernel_rfl) (by kernel_rfl) (by kernel_rfl) (by kernel_rfl)];kernel_rfl
theorem CY(t:Addr)(w:World):(callFunc 114 #[.iface 117 (.pointer (some t))]).run prog w=.ok (.value ((Value.agg #[Value.pointer (some (Addr.mk 31 117 none)),Value.pointer (some ⟨w.heap.size,0,none⟩),Value.int IntKind.u64 150]))) (w.alloc (.cells #[.pointer (some t)] 117)):=by
 rw[@run_callFunc_extern prog 114 _ (fun args=>ReflectliteValue.unpack (args.getD 0 (.tuple #[]))) func114 (by kernel_rfl) (by kernel_rfl) (by kernel_rfl) (by kernel_rfl)];kernel_rfl
theorem AX(a:Addr)(w:World):(callFunc 115 #[(Value.agg #[Value.pointer (some (Addr.mk 31 122 none)),Value.pointer (some a),Value.int IntKind.u64 150])]).run prog w=.ok (.value (.iface 289 ((Value.agg #[Value.pointer (some (Addr.mk 31 122 none))])))) w:=by
 rw[@run_callFunc_extern prog 115 _ (ReflectliteValue.methodAny (ReflectliteValue.valueError "reflectlite.Value.Type" 0) (fun t _ _ _=>ReflectliteType.toType t)) func115 (by kernel_rfl) (by kernel_rfl) (by kernel_rfl) (by kernel_rfl)];kernel_rfl
theorem AP(w:World):(callFunc 317 #[.pointer (some ⟨31,122,none⟩)]).run prog w=.ok (.value (.int .u8 22)) w:=by
 rw[@run_callFunc_extern prog 317 _ (ReflectliteType.abiMethod fun t=>do pure (.int .u8 (←Rtype.kind t))) func317 (by kernel_rfl) (by kernel_rfl) (by kernel_rfl) (by kernel_rfl)];kernel_rfl
theorem AU(w:World):(callFunc 317 #[.pointer (some ⟨31,117,none⟩)]).run prog w=.ok (.value (.int .u8 22)) w:=by
 rw[@run_callFunc_extern prog 317 _ (ReflectliteType.abiMethod fun t=>do pure (.int .u8 (←Rtype.kind t))) func317 (by kernel_rfl) (by kernel_rfl) (by kernel_rfl) (by kernel_rfl)];kernel_rfl
theorem AJ(w:World):(callFunc 342 #[(Value.agg #[Value.pointer (some (Addr.mk 31 122 none))])]).run prog w=.ok (.value (.iface 289 ((Value.agg #[Value.pointer (some (Addr.mk 31 117 none))])))) w:=by
 rw[@run_callFunc_extern prog 342 _ (ReflectliteType.method ReflectliteType.elem) func342 (by kernel_rfl) (by kernel_rfl) (by kernel_rfl) (by kernel_rfl)];kernel_rfl
theorem AM(w:World):(callFunc 343 #[(Value.agg #[Value.pointer (some (Addr.mk 31 117 none))]),.iface 289 ((Value.agg #[Value.pointer (some (Addr.mk 31 61 none))]))]).run prog w=.ok (.value (.bool true)) w:=by
 rw[@run_callFunc_extern prog 343 _ (ReflectliteType.relation "Implements" ReflectliteType.implements_) func343 (by kernel_rfl) (by kernel_rfl) (by kernel_rfl) (by kernel_rfl)];kernel_rfl
theorem sM(w:World):(callFunc 340 #[(Value.agg #[Value.pointer (some (Addr.mk 31 415 none))]),.iface 289 ((Value.agg #[Value.pointer (some (Addr.mk 31 117 none))]))]).run prog w=.ok (.value (.bool false)) w:=by
 rw[@run_callFunc_extern prog 340 _ (ReflectliteType.relation "AssignableTo" ReflectliteType.assignableTo) func340 (by kernel_rfl) (by kernel_rfl) (by kernel_rfl) (by kernel_rfl)];kernel_rfl
theorem sO(w:World):(callFunc 340 #[(Value.agg #[Value.pointer (some (Addr.mk 31 250 none))]),.iface 289 ((Value.agg #[Value.pointer (some (Addr.mk 31 117 none))]))]).run prog w=.ok (.value (.bool false)) w:=by
 rw[@run_callFunc_extern prog 340 _ (ReflectliteType.relation "AssignableTo" ReflectliteType.assignableTo) func340 (by kernel_rfl) (by kernel_rfl) (by kernel_rfl) (by kernel_rfl)];kernel_rfl
theorem sL(w:World):(callFunc 340 #[(Value.agg #[Value.pointer (some (Addr.mk 31 117 none))]),.iface 289 ((Value.agg #[Value.pointer (some (Addr.mk 31 117 none))]))]).run prog w=.ok (.value (.bool true)) w:=by
 rw[@run_callFunc_extern prog 340 _ (ReflectliteType.relation "AssignableTo" ReflectliteType.assignableTo) func340 (by kernel_rfl) (by kernel_rfl) (by kernel_rfl) (by kernel_rfl)];kernel_rfl
theorem sN(w:World):(callFunc 340 #[(Value.agg #[Value.pointer (some (Addr.mk 31 118 none))]),.iface 289 ((Value.agg #[Value.pointer (some (Addr.mk 31 117 none))]))]).run prog w=.ok (.value (.bool false)) w:=by
 rw[@run_callFunc_extern prog 340 _ (ReflectliteType.relation "AssignableTo" ReflectliteType.assignableTo) func340 (by kernel_rfl) (by kernel_rfl) (by kernel_rfl) (by kernel_rfl)];kernel_rfl
theorem sP(w:World):(callFunc 340 #[(Value.agg #[Value.pointer (some (Addr.mk 31 188 none))]),.iface 289 ((Value.agg #[Value.pointer (some (Addr.mk 31 117 none))]))]).run prog w=.ok (.value (.bool false)) w:=by
 rw[@run_callFunc_extern prog 340 _ (ReflectliteType.relation "AssignableTo" ReflectliteType.assignableTo) func340 (by kernel_rfl) (by kernel_rfl) (by kernel_rfl) (by kernel_rfl)];kernel_rfl
theorem uM(a:Addr)(w:World):(ReflectliteValue.parts ((Value.agg #[Value.pointer (some (Addr.mk 31 122 none)),Value.pointer (some a),Value.int IntKind.u64 150]))).run prog w=.ok (some (122,a,150)) w:=by kernel_rfl
theorem Cu(a:Addr)(w:World):(ReflectliteValue.parts ((Value.agg #[Value.pointer (some (Addr.mk 31 117 none)),Value.pointer (some a),Value.int IntKind.u64 150]))).run prog w=.ok (some (117,a,150)) w:=by kernel_rfl
theorem Cx(a:Addr)(w:World):(ReflectliteValue.parts ((Value.agg #[Value.pointer (some (Addr.mk 31 117 none)),Value.pointer (some a),Value.int IntKind.u64 406]))).run prog w=.ok (some (117,a,406)) w:=by kernel_rfl
theorem Cg(w:World):(Rtype.elem? 122).run prog w=.ok (some 117) w:=by kernel_rfl
theorem Cj(p:Addr)(w:World):(ReflectliteValue.mk 117 p ReflectliteValue.flagAddr).run prog w=.ok ((Value.agg #[Value.pointer (some (Addr.mk 31 117 none)),Value.pointer (some p),Value.int IntKind.u64 406])) w:=by kernel_rfl
theorem Cd(w:World):(Rtype.directlyAssignable 117 117).run prog w=.ok true w:=by kernel_rfl
theorem yw(a p:Addr)(W:World)(ha:W.cell? a=some (.pointer (some p))):(callFunc 116 #[(Value.agg #[Value.pointer (some (Addr.mk 31 122 none)),Value.pointer (some a),Value.int IntKind.u64 150])]).run prog W=.ok (.value (.bool false)) W:=by
 rw[@run_callFunc_extern prog 116 _ (ReflectliteValue.method (ReflectliteValue.valueError "reflectlite.Value.IsNil" 0) ReflectliteValue.isNil) func116 (by kernel_rfl) (by kernel_rfl) (by kernel_rfl) (by kernel_rfl)];rw[rlm];simp only[Sem.run_bind,uM,Result.andThen];simp[ReflectliteValue.isNil,loadVar,isAgg,underlying,underlying122,ha,Result.andThen]
theorem yt(a p:Addr)(W:World)(ha:W.cell? a=some (.pointer (some p))):(callFunc 165 #[(Value.agg #[Value.pointer (some (Addr.mk 31 122 none)),Value.pointer (some a),Value.int IntKind.u64 150])]).run prog W=.ok (.value ((Value.agg #[Value.pointer (some (Addr.mk 31 117 none)),Value.pointer (some p),Value.int IntKind.u64 406]))) W:=by
 rw[@run_callFunc_extern prog 165 _ (ReflectliteValue.method (ReflectliteValue.valueError "reflectlite.Value.Elem" 0) ReflectliteValue.elem) func165 (by kernel_rfl) (by kernel_rfl) (by kernel_rfl) (by kernel_rfl)];rw[rlm];simp only[Sem.run_bind,uM,Result.andThen];simp[ReflectliteValue.elem,loadVar,isAgg,underlying,underlying122,ha,Result.andThen,Cg,Cj]
theorem yz(ta b e:Addr)(old:Value)(W:World)(hb:W.cell? b=some (.pointer (some e)))(ht:W.cell? ta=some old)(hf:W.frozen? ta=false):
  (callFunc 166 #[(Value.agg #[Value.pointer (some (Addr.mk 31 117 none)),Value.pointer (some ta),Value.int IntKind.u64 406]),(Value.agg #[Value.pointer (some (Addr.mk 31 117 none)),Value.pointer (some b),Value.int IntKind.u64 150])]).run prog W=.ok (.value (.tuple #[])) (W.setCell ta (.pointer (some e))):=by
 rw[@run_callFunc_extern prog 166 _ ReflectliteValue.set func166 (by kernel_rfl) (by kernel_rfl) (by kernel_rfl) (by kernel_rfl)];rw[rls];simp only[Sem.run_bind,Cu,Cx,Result.andThen];simp[ReflectliteValue.flagAddr,loadVar,isAgg,underlying,underlying117,hb,Result.andThen,Cd,storeVar,Value.cells,storeCells,Addr.add];rw[run_store prog W ta _ _ (by rfl)];simp[ht,hf]
theorem Bn(w:World)(a:Addr)(ks:List (Lk×ByteArray))(ev:Value)(hch:Chn w a ks ev)(tb:Nat)(old:Value)(va:Addr)(hva:w.cell? va=some (.pointer (some ⟨tb,0,none⟩)))(ht0:w.heap[tb]? =some (.cells #[old] 117)):
  Calls prog 117 #[ev,.iface 122 (.pointer (some ⟨tb,0,none⟩)),(Value.agg #[Value.pointer (some (Addr.mk 31 122 none)),Value.pointer (some va),Value.int IntKind.u64 150]),.iface 289 ((Value.agg #[Value.pointer (some (Addr.mk 31 117 none))]))] w fun e w'=>AsR Lk.doc 117 w tb (ks.find? (fun p=>p.1 == Lk.doc)) e w':=by
 have M:=CY;have N:=fK;have g3:=sM;have g4:=md;have O:=dD;have P:=cY;have Q:=cH;have B:Kp (fun k=>k=tb) w (w.alloc (.cells #[.pointer (some ⟨31,122,none⟩),.pointer (some va),.int .u64 150] 214)):=(Kp.refl _ w).alloc _;have j:=bk hva;have y:=ag ht0;have n:(w.alloc (.cells #[.pointer (some ⟨31,122,none⟩),.pointer (some va),.int .u64 150] 214)).cell? va=some (.pointer (some ⟨tb,0,none⟩)):=by rw[World.cell?_alloc_lt _ _ va j];exact hva
 have m:(w.alloc (.cells #[.pointer (some ⟨31,122,none⟩),.pointer (some va),.int .u64 150] 214)).heap[tb]? =some (.cells #[old] 117):=by rw[Below.heap_alloc _ _ _ y];exact ht0
 have f:Chn (w.alloc (.cells #[.pointer (some ⟨31,122,none⟩),.pointer (some va),.int .u64 150] 214)) a ks ev:=hch.kp ((Kp.refl _ w).alloc _);have z:=ae f;obtain⟨t0,u0,rfl⟩:=hch.iface;clear hch f hva ht0 j;go_enter func117,ntmps117;go_wp2;have A:=ae B;clear B;have x:(w.alloc (.cells #[.pointer (some ⟨31,122,none⟩),.pointer (some va),.int .u64 150] 214)).heap.size=w.heap.size+1:=by simp
 have J:(w.alloc (.cells #[.pointer (some ⟨31,122,none⟩),.pointer (some va),.int .u64 150] 214)).cell? ⟨w.heap.size,0,none⟩=some (.pointer (some ⟨31,122,none⟩)):=by simp
 have K:(w.alloc (.cells #[.pointer (some ⟨31,122,none⟩),.pointer (some va),.int .u64 150] 214)).cell? ⟨w.heap.size,1,none⟩=some (.pointer (some va)):=by simp
 have L:(w.alloc (.cells #[.pointer (some ⟨31,122,none⟩),.pointer (some va),.int .u64 150] 214)).cell? ⟨w.heap.size,2,none⟩=some (.int .u64 150):=by simp
 generalize w.alloc (.cells #[.pointer (some ⟨31,122,none⟩),.pointer (some va),.int .u64 150] 214)=w1 at *
 go_loopg [0] ks.length (fun gg v wr=>∃d:List (Lk×ByteArray),gg=d.length∧Chn w1 a d v∧d.find? (fun p=>p.1 == Lk.doc)=ks.find? (fun p=>p.1 == Lk.doc)∧wr=w1)
 case atStart=>exact⟨ks,rfl,z.o,rfl,rfl⟩
 case round=>
  obtain⟨d,h,I,c,rfl⟩:=hrel;clear z
  cases I with
  |nil=>
   have i:=ae c;clear h c;unfold ax;go_wp2;go_ret;exact AsR.none A.o i.o.symm
  |cons k ks2 b2 s ev2 hb2 hc2=>
   have b:=gj hb2;have q:=ae h;have H:=ae hb2;have i:=ae c;have g:=ae hc2;obtain⟨t2,u2,rfl⟩:=hc2.iface;clear h hc2 hb2 c
   cases k with
   |mem=>
    have r:=fq;have u:=sO;have D:=kF;have G:=dY;have C:=cW;simp only[Lk.off]at b;simp only[Lk.t];go_wp2;go_roundg ks2.length
    case measure=>rw[q.o];exact Nat.lt_succ_self _
    case rel=>exact⟨ks2,rfl,g.o,i.o,rfl⟩
   |doc=>
    have r:=fh;have u:=sL;have R:=yt va ⟨tb,0,none⟩ wr n;have l:(wr.alloc (.cells #[.pointer (some ⟨b2,0,none⟩)] 117)).heap[tb]? =some (.cells #[old] 117):=by rw[Below.heap_alloc _ _ _ (by omega)];exact m
    obtain⟨E,F⟩:=aj l;have S:=yz ⟨tb,0,none⟩ ⟨w.heap.size+1,0,none⟩ ⟨b2,0,none⟩ old (wr.alloc (.cells #[.pointer (some ⟨b2,0,none⟩)] 117)) (by rw[←x];simp) E F;clear E F;simp only[Lk.off]at b;simp only[Lk.t];go_wp2;go_ret;rw[ip (ag m)];exact AsR.hit A.o i.o H.o l (by decide) (by decide)
   |evt=>
    have r:=fj;have u:=sN;have D:=nj;have G:=eG;have C:=dL;simp only[Lk.off]at b;simp only[Lk.t];go_wp2;go_roundg ks2.length
    case measure=>rw[q.o];exact Nat.lt_succ_self _
    case rel=>exact⟨ks2,rfl,g.o,i.o,rfl⟩
   |srv=>
    have r:=ft;have u:=sP;have D:=nk;have G:=eH;have C:=dM;simp only[Lk.off]at b;simp only[Lk.t];go_wp2;go_roundg ks2.length
    case measure=>rw[q.o];exact Nat.lt_succ_self _
    case rel=>exact⟨ks2,rfl,g.o,i.o,rfl⟩
theorem C4(w:World)(a:Addr)(ks:List (Lk×ByteArray))(ev:Value)(hch:Chn w a ks ev)(tb:Nat)(old:Value)(hg:w.cell? ⟨9,0,none⟩=some (.iface 289 ((Value.agg #[Value.pointer (some (Addr.mk 31 61 none))]))))(ht0:w.heap[tb]? =some (.cells #[old] 117)):
  Calls prog 67 #[ev,.iface 122 (.pointer (some ⟨tb,0,none⟩))] w fun e w'=>AsR Lk.doc 117 w tb (ks.find? (fun p=>p.1 == Lk.doc)) e w':=by
 have d:Kp (fun _=>False) w ((w.alloc (.cells #[.pointer (some ⟨tb,0,none⟩)] 122)).alloc (.cells #[.pointer (some ⟨31,122,none⟩),.pointer (some ⟨w.heap.size,0,none⟩),.int .u64 150] 214)):=((Kp.refl _ w).alloc _).alloc _;have l:=CV;have m:=AX;have n:=iK;have q:=iI;have s:=iJ;have t:=AP;have u:=AU;have v:=AJ;have i:=AM;have c:=bk hg;have b:((w.alloc (.cells #[.pointer (some ⟨tb,0,none⟩)] 122)).alloc (.cells #[.pointer (some ⟨31,122,none⟩),.pointer (some ⟨w.heap.size,0,none⟩),.int .u64 150] 214)).cell? ⟨w.heap.size,0,none⟩=some (.pointer (some ⟨tb,0,none⟩)):=by simp
 have j:=yw ⟨w.heap.size,0,none⟩ ⟨tb,0,none⟩ _ b;have k:((w.alloc (.cells #[.pointer (some ⟨tb,0,none⟩)] 122)).alloc (.cells #[.pointer (some ⟨31,122,none⟩),.pointer (some ⟨w.heap.size,0,none⟩),.int .u64 150] 214)).cell? ⟨9,0,none⟩=some (.iface 289 ((Value.agg #[Value.pointer (some (Addr.mk 31 61 none))]))):=by rw[World.cell?_alloc_lt _ _ ⟨9,0,none⟩ (by simp at c ⊢;omega),World.cell?_alloc_lt _ _ ⟨9,0,none⟩ c];exact hg
 have h:=ae (Bn _ a ks ev (hch.kp d) tb old ⟨w.heap.size,0,none⟩ b ((d.block _ (ag ht0) (by simp)).trans ht0));have g:=ae d;obtain⟨t0,u0,rfl⟩:=hch.iface;clear hch d b c ht0 hg;go_enter func67,ntmps67;go_wp2_with fail
 refine h.o.mono ?_;rintro e w' f;obtain⟨r,rfl⟩:=f.ret;go_wp2;go_ret;exact f.before g.o
end
end Go.Proofs.YtocligpfmfmihaaGreatDoor
