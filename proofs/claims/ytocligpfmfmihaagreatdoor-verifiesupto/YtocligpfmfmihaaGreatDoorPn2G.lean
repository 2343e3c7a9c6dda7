import Derived.Test.YtocligpfmfmihaaGreatDoorRn1G
import Derived.Test.YtocligpfmfmihaaGreatDoorMpG
import Derived.Test.YtocligpfmfmihaaGreatDoorRea8G
import Derived.Test.YtocligpfmfmihaaGreatDoorRef11G
import Derived.Deep.LoopGhost
import Derived.Deep.QuietTactic
set_option maxHeartbeats 4000000
set_option maxRecDepth 20000
namespace Go.Proofs.YtocligpfmfmihaaGreatDoor
open Go.Proofs.Tryz
section
open Go Go.RowKit Go.Maps Go.WideMaps Go.MuLone
theorem fd{w:World}{sb qb:Nat}{t:Bs}(h:w.heap[sb]? =some (eJ qb t)):w.cell? ⟨sb,0,none⟩=some (.map (some qb))∧w.cell? ⟨sb,1,none⟩=some (.string ⟨t.toArray⟩)∧w.frozen? ⟨sb,1,none⟩=false:=by
 unfold eJ at h;refine⟨?_, ?_, ?_⟩ <;> simp[World.cell?,World.frozen?,h]
theorem oN{w:World}{sb qb kb mb ib:Nat}{t:Bs}(h:w.heap[sb]? =some (eJ qb t))(hk:w.heap[kb]? =some (dT mb ib)):sb≠kb:=by
 rintro rfl;rw[hk]at h;unfold eJ dT at h;injection h with h
 injection h with _ a _
 revert a
 decide
theorem xe(w:World)(kb mb ib n sb qb qn:Nat)(t:Bs)(sm qm:List (Bs×Value))(hk:w.heap[kb]? =some (dT mb ib))(hm:w.ownsMap prog 9 Rv mb n (dm sm))(s i:Bs)(hs:s.length≤2000000)(hi:i.length≤2000000)(at':Int)(hl:ai s sm=some (.pointer (some ⟨sb,0,none⟩)))
  (hsv:w.heap[sb]? =some (eJ qb t)) (hq:w.ownsMap prog 9 Rv qb qn (dm qm)) (o:Option (Bs×Int)) (ho:ai i qm=o.map kkV) :
  Calls prog 64 #[.pointer (some ⟨kb,0,none⟩),.string ⟨s.toArray⟩,.string ⟨i.toArray⟩,.int .i64 at'] w fun e w'=>e=.returned (.tuple #[.string ⟨((o.bind fun p=>if p.2 < at' then none else some p.1).getD []).toArray⟩,.bool (o.bind fun p=>if p.2 < at' then none else some p.1).isSome])∧Kp (fun _=>False) w w':=by
 obtain⟨j,u,v,k⟩:=gu hk;obtain⟨x,y,z,A⟩:=fy hk;have c:(held kb w).heap[sb]? =some (eJ qb t):=(bW (oN hsv hk)).trans hsv;obtain⟨B,C,_⟩:=fd c;have d:=gG underlying168 vU (held kb w) sm mb n s (by omega) (ay hm (bW (bw hm hk)));rw[hl]at d;replace d:(Instr.lookup 168 (.map (some mb)) (.string ⟨s.toArray⟩) true).run prog (held kb w)=.ok (.tuple #[.pointer (some ⟨sb,0,none⟩),.bool true]) (held kb w):=d;have a:=gG underlying180 sK (held kb w) qm qb qn i (by omega) (ay hq (bW (bw hq hk)));rw[ho]at a;have b:=ae (fun o=>kx hk ((Kp.refl _ (held kb w)).alloc o));clear hk hm hq hsv c hl ho
 cases o with
 |none=>
  replace a:(Instr.lookup 180 (.map (some qb)) (.string ⟨i.toArray⟩) true).run prog (held kb w)=.ok (.tuple #[.agg #[.string ⟨#[]⟩,.int .i64 0],.bool false]) (held kb w):=a;unfold held at *;go_enter_defers func64,ntmps64
  go_wp2_with (go_at_call 96;refine (lock_free Tryz.muLib ⟨kb,0,none⟩ _ j k).mono ?_;rintro e w' ⟨rfl,rfl⟩)
  refine leaves_cons (f:=97) (args:= #[.pointer (some ⟨kb,0,none⟩)]) (by simp) (by simp[go_sem]) ?_;refine (unlock_deferred Tryz.muLib ⟨kb,0,none⟩ .returning _ (b.o _).1 (b.o _).2.1).mono ?_;rintro e r w'' ⟨rfl,rfl,rfl⟩;exact⟨_,results_tmp2 rfl _ _ _,rfl,(b.o _).2.2⟩
 |some p=>
  obtain⟨q,h⟩:=p;replace a:(Instr.lookup 180 (.map (some qb)) (.string ⟨i.toArray⟩) true).run prog (held kb w)=.ok (.tuple #[.agg #[.string ⟨q.toArray⟩,.int .i64 h],.bool true]) (held kb w):=a;by_cases g:h < at'
  ·have l:decide (at' > h)=true:=by simpa using g
   have m:=ae (show ((some (q,h)).bind fun p:Bs×Int=>if p.2 < at' then none else some p.1)=none by simp[g]);clear g;unfold held at *;go_enter_defers func64,ntmps64
   go_wp2_with (go_at_call 96;refine (lock_free Tryz.muLib ⟨kb,0,none⟩ _ j k).mono ?_;rintro e w' ⟨rfl,rfl⟩)
   refine leaves_cons (f:=97) (args:= #[.pointer (some ⟨kb,0,none⟩)]) (by simp) (by simp[go_sem]) ?_;refine (unlock_deferred Tryz.muLib ⟨kb,0,none⟩ .returning _ (b.o _).1 (b.o _).2.1).mono ?_;rintro e r w'' ⟨rfl,rfl,rfl⟩;rw[m.o];exact⟨_,results_tmp2 rfl _ _ _,rfl,(b.o _).2.2⟩
  ·have l:decide (at' > h)=false:=by simpa using g
   have m:=ae (show ((some (q,h)).bind fun p:Bs×Int=>if p.2 < at' then none else some p.1)=some q by simp[g]);clear g;unfold held at *;go_enter_defers func64,ntmps64
   go_wp2_with (go_at_call 96;refine (lock_free Tryz.muLib ⟨kb,0,none⟩ _ j k).mono ?_;rintro e w' ⟨rfl,rfl⟩)
   refine leaves_cons (f:=97) (args:= #[.pointer (some ⟨kb,0,none⟩)]) (by simp) (by simp[go_sem]) ?_;refine (unlock_deferred Tryz.muLib ⟨kb,0,none⟩ .returning _ (b.o _).1 (b.o _).2.1).mono ?_;rintro e r w'' ⟨rfl,rfl,rfl⟩;rw[m.o];exact⟨_,results_tmp2 rfl _ _ _,rfl,(b.o _).2.2⟩
end
section
open Go Go.RowKit
theorem aF{P:Program}{ops:Array Oper}{o:Oper}{a:Act}{w:World}{K:Act→World→Prop}{Q:Exit→Act→World→Prop}{E:Prop}(hgd:o.guard=none)(f:FuncId)(xs:Array Operand)(ts:Array TypeId)(_:o.op=.call { callee:=.value (.func f),args:=xs,argTypes:=ts })(args:Array Value)
  (hrun:(execOp a.eval o).run P w=.ok (.enter f args) w)
  (h:Calls P f args w fun | .returned v,w''=>K (a.put o.dst v) w'' | .panicked chain,w''=>Q (.panic chain) a w'' | .outgrown,_=>LetsOut Q) :
  if Region.wanted o (yielded ops a.tmps)=true then Oper.wp P o a w K Q else E:=dG hgd f args hrun h
def noP(Q:Exit→Act→World→Prop):Exit→Act→World→Prop:=fun ex a w=>match ex with | .panic _=>False | e=>Q e a w
theorem lX{P:Program}{c:Code}{Q:Exit→Act→World→Prop}{a:Act}{w:World}(h:Code.wp P c (noP Q) a w):Code.wp P c Q a w:=
 Code.wp_mono (fun e _ _ h=>by cases e <;> first | exact h | exact h.elim) h
theorem vq{Q:Exit→Act→World→Prop}{a:Act}{w:World}(h:Q .normal a w):noP Q .normal a w:=h
theorem dq{P:Program}{ops:Array Oper}{o:Oper}{a:Act}{w:World}{K:Act→World→Prop}{Q:Exit→Act→World→Prop}{E:Prop}(hgd:o.guard=none)(s x:Operand)(t:TypeId)
  (ho:o.op=.call { callee:=.builtin .append,args:= #[s,x],argTypes:= #[t,t] }) (v xv v':Value) (w':World) (hs:a.eval s=v) (hx:a.eval x=xv) (hr:(Builtin.append_ #[t,t] o.type #[v,xv]).run P w=.ok v' w') (h:K (a.put o.dst v') w') :
  if Region.wanted o (yielded ops a.tmps)=true then Oper.wp P o a w K Q else E:=by
 have b:Region.wanted o (yielded ops a.tmps)=true:=by simp[Region.wanted,hgd]
 rw[if_pos b];unfold Oper.wp execOp;simp only[ho,resolve,invoke,builtin,Sem.run_bind,Sem.run_pure,Result.andThen_ok,List.map_toArray,List.map_cons,List.map_nil,hs,hx,hr];exact h
theorem fG{P:Program}{c:Code}{Q:Exit→Act→World→Prop}{a:Act}{w:World}(A:Act)(W:World)(h:Code.wp P c (noP fun ex a' w'=>ex=.normal∧a'=A∧w'=W) a w)(hq:Q .normal A W):Code.wp P c Q a w:=
 lX (Code.wp_mono (fun e _ _ h=>by
   cases e <;> first
     |exact h.elim
     | (obtain⟨b,rfl,rfl⟩:=h;exact hq)
     |exact absurd h.1 (by intro h;cases h)) h)
theorem cF{A:Act}{W:World}:noP (fun ex a' w'=>ex=.normal∧a'=A∧w'=W) .normal A W:=⟨rfl,rfl,rfl⟩
end
section
open Go Go.RowKit Go.Maps Go.WideMaps Go.MuLone
attribute [local go_sem] Oper.semAt_some
theorem yg(now:Int)(h0 : -9223372036854775808≤now)(w:World):Calls prog 155 #[.int .i64 now] w fun e w'=>e=.returned (.int .i64 (jV now))∧w'=w:=by
 unfold jV;by_cases h:9223372036854774807 < now
 ·have a:decide (now > 9223372036854774807)=true:=by simpa using h
  rw[if_pos h];clear h;go_enter func155,ntmps155;go_wp2;go_ret;exact⟨rfl,rfl⟩
 ·have a:decide (now > 9223372036854774807)=false:=by simpa using h
  rw[if_neg h];go_enter func155,ntmps155;go_wp2;go_ret;exact⟨rfl,rfl⟩
theorem rq(k:Ky)(now:Int)(h0 : -9223372036854775808≤now)(w:World):Calls prog 100 #[.agg (kyC k).toArray,.int .i64 now] w fun e w'=>e=.returned (.int .i64 (bX now k))∧Kp (fun _=>False) w w':=by
 have b:Kp (fun _=>False) w (w.alloc (.cells (kyC k).toArray 35)):=(Kp.refl _ _).alloc _;unfold bX;unfold kyC at *;have a:=ae b;clear b;generalize hko:k.old=ko at *
 cases ko with
 |true=>
  go_enter func100,ntmps100;go_wp2_with fail
  go_ret;exact⟨rfl,a.o⟩
 |false=>
  go_enter func100,ntmps100;go_wp2_with fail
  go_region_law (refine aF rfl 155 _ _ rfl #[.int .i64 now] (by go_simp) ?_;refine (yg now h0 _).mono ?_;rintro e w' ⟨rfl,rfl⟩)
  all_goals go_wp2
  all_goals go_ret
  all_goals exact⟨rfl,a.o.drewN _⟩
end
section
open Go Go.RowKit Go.Extern.Stop Go.Stop Go.Extern
inductive Lk | mem | doc | evt | srv
deriving DecidableEq
def Lk.t:Lk→TypeId
 |.mem=>250
 |.doc=>117
 |.evt=>118
 |.srv=>188
def Lk.bt:Lk→TypeId
 |.mem=>252
 |.doc=>146
 |.evt=>187
 |.srv=>191
def Lk.cs(k:Lk)(s:ByteArray)(ev:Value):Array Value:=match k with
 |.mem=> #[.string s,ev]
 |.doc=> #[ev]
 |.evt=> #[ev]
 |.srv=> #[.string s,ev]
inductive Chn (w:World) (a:Addr):List (Lk×ByteArray)→Value→Prop
 |nil:Chn w a [] (ax a)
 |cons (k:Lk) (ks:List (Lk×ByteArray)) (b:Nat) (s:ByteArray) (ev:Value):w.heap[b]? =some (.cells (k.cs s ev) k.bt)→Chn w a ks ev→Chn w a ((k,s) :: ks) (.iface k.t (.pointer (some ⟨b,0,none⟩)))
theorem Chn.iface{w:World}{a:Addr}{ks:List (Lk×ByteArray)}{ev:Value}(h:Chn w a ks ev):∃t u,ev=.iface t u:=by
 cases h with
 |nil=>exact⟨_,_,rfl⟩
 |cons k ks b s ev h _=>exact⟨_,_,rfl⟩
theorem Chn.up{w w':World}{a:Addr}{ks:List (Lk×ByteArray)}{ev:Value}(h:Chn w a ks ev)(hk:∀(k:Nat) (c:Array Value) (t:TypeId),w.heap[k]? =some (.cells c t)→t=252∨t=146∨t=187∨t=191→w'.heap[k]? =some (.cells c t)):Chn w' a ks ev:=by
 induction h with
 |nil=>exact .nil
 |cons k ks b s ev h _ ih=>exact .cons k ks b s ev (hk _ _ _ h (by cases k <;> simp[Lk.bt])) ih
theorem Chn.kp{w w':World}{a:Addr}{ks:List (Lk×ByteArray)}{ev:Value}(h:Chn w a ks ev)(hk:Kp (fun _=>False) w w'):Chn w' a ks ev:=h.up (fun k _ _ h _=>(hk.block k (ag h) (by simp)).trans h)
theorem rA(v:Value)(xT:TypeId)(w:World):(Instr.typeAssert (.iface 250 v) xT 291 true).run prog w=.ok (.tuple #[.nilIface,.bool false]) w:=run_typeAssert_lacksB underlying291 (by kernel_rfl) (by kernel_rfl) v xT w
theorem kF(v:Value)(xT:TypeId)(w:World):(Instr.typeAssert (.iface 250 v) xT 301 true).run prog w=.ok (.tuple #[.nilIface,.bool false]) w:=run_typeAssert_lacksB underlying301 (by kernel_rfl) (by kernel_rfl) v xT w
theorem dY(v:Value)(xT:TypeId)(w:World):(Instr.typeAssert (.iface 250 v) xT 294 true).run prog w=.ok (.tuple #[.iface 250 v,.bool true]) w:=run_typeAssert_hasB underlying294 (by kernel_rfl) v xT w
theorem cW(v:Value)(w:World):(Go.method 546 250 v "Unwrap").run prog w=.ok (338,v) w:=by kernel_rfl
theorem rt(v:Value)(xT:TypeId)(w:World):(Instr.typeAssert (.iface 117 v) xT 291 true).run prog w=.ok (.tuple #[.nilIface,.bool false]) w:=run_typeAssert_lacksB underlying291 (by kernel_rfl) (by kernel_rfl) v xT w
theorem ni(v:Value)(xT:TypeId)(w:World):(Instr.typeAssert (.iface 117 v) xT 301 true).run prog w=.ok (.tuple #[.nilIface,.bool false]) w:=run_typeAssert_lacksB underlying301 (by kernel_rfl) (by kernel_rfl) v xT w
theorem eF(v:Value)(xT:TypeId)(w:World):(Instr.typeAssert (.iface 117 v) xT 294 true).run prog w=.ok (.tuple #[.iface 117 v,.bool true]) w:=run_typeAssert_hasB underlying294 (by kernel_rfl) v xT w
theorem dK(v:Value)(w:World):(Go.method 546 117 v "Unwrap").run prog w=.ok (324,v) w:=by kernel_rfl
theorem ru(v:Value)(xT:TypeId)(w:World):(Instr.typeAssert (.iface 118 v) xT 291 true).run prog w=.ok (.tuple #[.nilIface,.bool false]) w:=run_typeAssert_lacksB underlying291 (by kernel_rfl) (by kernel_rfl) v xT w
theorem nj(v:Value)(xT:TypeId)(w:World):(Instr.typeAssert (.iface 118 v) xT 301 true).run prog w=.ok (.tuple #[.nilIface,.bool false]) w:=run_typeAssert_lacksB underlying301 (by kernel_rfl) (by kernel_rfl) v xT w
theorem eG(v:Value)(xT:TypeId)(w:World):(Instr.typeAssert (.iface 118 v) xT 294 true).run prog w=.ok (.tuple #[.iface 118 v,.bool true]) w:=run_typeAssert_hasB underlying294 (by kernel_rfl) v xT w
theorem dL(v:Value)(w:World):(Go.method 546 118 v "Unwrap").run prog w=.ok (326,v) w:=by kernel_rfl
theorem rB(v:Value)(xT:TypeId)(w:World):(Instr.typeAssert (.iface 188 v) xT 291 true).run prog w=.ok (.tuple #[.nilIface,.bool false]) w:=run_typeAssert_lacksB underlying291 (by kernel_rfl) (by kernel_rfl) v xT w
theorem nk(v:Value)(xT:TypeId)(w:World):(Instr.typeAssert (.iface 188 v) xT 301 true).run prog w=.ok (.tuple #[.nilIface,.bool false]) w:=run_typeAssert_lacksB underlying301 (by kernel_rfl) (by kernel_rfl) v xT w
theorem eH(v:Value)(xT:TypeId)(w:World):(Instr.typeAssert (.iface 188 v) xT 294 true).run prog w=.ok (.tuple #[.iface 188 v,.bool true]) w:=run_typeAssert_hasB underlying294 (by kernel_rfl) v xT w
theorem dM(v:Value)(w:World):(Go.method 546 188 v "Unwrap").run prog w=.ok (329,v) w:=by kernel_rfl
theorem fH(t:TypeId)(v:Value)(w:World)(h:(Extern.ReflectliteType.typeOf #[.iface t v]).run prog w=.ok (.iface 289 (.agg #[.pointer (some ⟨31,t,none⟩)])) w):(callFunc 112 #[.iface t v]).run prog w=.ok (.value (.iface 289 (.agg #[.pointer (some ⟨31,t,none⟩)]))) w:=by
 rw[@run_callFunc_extern prog 112 _ Extern.ReflectliteType.typeOf func112 (by kernel_rfl) (by kernel_rfl) (by kernel_rfl) (by kernel_rfl),h];rfl
theorem fq(v:Value)(w:World):(callFunc 112 #[.iface 250 v]).run prog w=.ok (.value (.iface 289 (.agg #[.pointer (some ⟨31,250,none⟩)]))) w:=fH 250 v w (by kernel_rfl)
theorem fh(v:Value)(w:World):(callFunc 112 #[.iface 117 v]).run prog w=.ok (.value (.iface 289 (.agg #[.pointer (some ⟨31,117,none⟩)]))) w:=fH 117 v w (by kernel_rfl)
theorem fj(v:Value)(w:World):(callFunc 112 #[.iface 118 v]).run prog w=.ok (.value (.iface 289 (.agg #[.pointer (some ⟨31,118,none⟩)]))) w:=fH 118 v w (by kernel_rfl)
theorem ft(v:Value)(w:World):(callFunc 112 #[.iface 188 v]).run prog w=.ok (.value (.iface 289 (.agg #[.pointer (some ⟨31,188,none⟩)]))) w:=fH 188 v w (by kernel_rfl)
def Lk.off:Lk→Nat | .mem=>1 | .doc=>0 | .evt=>0 | .srv=>1
theorem gj{w:World}{k:Lk}{b:Nat}{s:ByteArray}{ev:Value}(h:w.heap[b]? =some (.cells (k.cs s ev) k.bt)):w.cell? ⟨b,k.off,none⟩=some ev:=by
 cases k <;> simp[World.cell?,h,Lk.cs,Lk.off]
theorem vj(w:World)(a b:Addr)(ks:List (Lk×ByteArray))(ev:Value)(hch:Chn w a ks ev)(hne:a≠b)(ca cb:Array Value)(ta tb:TypeId)(ha:w.heap[a.block]? =some (.cells ca ta (0,0)))(hb:w.heap[b.block]? =some (.cells cb tb (0,0))):
  Calls prog 113 #[ev,ax b,.bool true] w fun e w'=>e=.returned (.bool false)∧w'=w:=by
 obtain⟨i,z,l⟩:=Option.map_eq_some_iff.1 lp;obtain⟨j,A,p⟩:=Option.map_eq_some_iff.1 lq;have B:=qE;have C:=dD;have D:=cY;have y:=run_eql_iface_ptr_other (P:=prog) (a:=a) (b:=b) w underlying61 underlying415 z l A (by rw[p];decide) hne ha hb;clear ha hb;have n:=ae hch;unfold ax;obtain⟨t0,u0,rfl⟩:=hch.iface;clear hch;go_enter func113,ntmps113;go_wp2
 go_loopg [0] ks.length (fun gg v wr=>∃h,gg=h.length∧Chn w a h v∧wr=w)
 case atStart=>exact⟨ks,rfl,n.o,rfl⟩
 case round=>
  obtain⟨h,f,x,rfl⟩:=hrel
  cases x with
  |nil=>
   clear f n;unfold ax;go_wp2;go_ret;exact⟨rfl,rfl⟩
  |cons k ks2 b2 s ev2 hb2 hc2=>
   have c:=gj hb2;have m:=ae f;have d:=ae hc2;obtain⟨t2,u2,rfl⟩:=hc2.iface;clear f hc2 hb2 n
   cases k with
   |mem=>
    have r:=rA;have u:=dY;have q:=cW;have g:=run_eql_iface_types (P:=prog) 250 415 (.pointer (some ⟨b2,0,none⟩)) (.pointer (some b)) underlying61 (by decide) wr;simp only[Lk.off]at c;simp only[Lk.t];go_wp2;go_roundg ks2.length
    case measure=>rw[m.o];exact Nat.lt_succ_self _
    case rel=>exact⟨ks2,rfl,d.o,rfl⟩
   |doc=>
    have r:=rt;have u:=eF;have q:=dK;have g:=run_eql_iface_types (P:=prog) 117 415 (.pointer (some ⟨b2,0,none⟩)) (.pointer (some b)) underlying61 (by decide) wr;simp only[Lk.off]at c;simp only[Lk.t];go_wp2;go_roundg ks2.length
    case measure=>rw[m.o];exact Nat.lt_succ_self _
    case rel=>exact⟨ks2,rfl,d.o,rfl⟩
   |evt=>
    have r:=ru;have u:=eG;have q:=dL;have g:=run_eql_iface_types (P:=prog) 118 415 (.pointer (some ⟨b2,0,none⟩)) (.pointer (some b)) underlying61 (by decide) wr;simp only[Lk.off]at c;simp only[Lk.t];go_wp2;go_roundg ks2.length
    case measure=>rw[m.o];exact Nat.lt_succ_self _
    case rel=>exact⟨ks2,rfl,d.o,rfl⟩
   |srv=>
    have r:=rB;have u:=eH;have q:=dM;have g:=run_eql_iface_types (P:=prog) 188 415 (.pointer (some ⟨b2,0,none⟩)) (.pointer (some b)) underlying61 (by decide) wr;simp only[Lk.off]at c;simp only[Lk.t];go_wp2;go_roundg ks2.length
    case measure=>rw[m.o];exact Nat.lt_succ_self _
    case rel=>exact⟨ks2,rfl,d.o,rfl⟩
theorem vh(w:World)(a:Addr)(ks:List (Lk×ByteArray))(ev:Value)(hch:Chn w a ks ev):
  Calls prog 113 #[ev,ax a,.bool true] w fun e w'=>e=.returned (.bool true)∧w'=w:=by
 obtain⟨i,x,h⟩:=Option.map_eq_some_iff.1 lp;obtain⟨j,y,z⟩:=Option.map_eq_some_iff.1 lq;have A:=qE;have B:=dD;have C:=cY;have u:=run_eql_iface_ptr_same (P:=prog) w a underlying61 underlying415 x h y;have m:=ae hch;unfold ax;obtain⟨t0,u0,rfl⟩:=hch.iface;clear hch;go_enter func113,ntmps113;go_wp2
 go_loopg [0] ks.length (fun gg v wr=>∃g,gg=g.length∧Chn w a g v∧wr=w)
 case atStart=>exact⟨ks,rfl,m.o,rfl⟩
 case round=>
  obtain⟨g,d,r,rfl⟩:=hrel
  cases r with
  |nil=>
   clear d m;unfold ax;go_wp2;go_ret;exact⟨rfl,rfl⟩
  |cons k ks2 b2 s ev2 hb2 hc2=>
   have b:=gj hb2;have l:=ae d;have c:=ae hc2;obtain⟨t2,u2,rfl⟩:=hc2.iface;clear d hc2 hb2 m
   cases k with
   |mem=>
    have p:=rA;have q:=dY;have n:=cW;have f:=run_eql_iface_types (P:=prog) 250 415 (.pointer (some ⟨b2,0,none⟩)) (.pointer (some a)) underlying61 (by decide) wr;simp only[Lk.off]at b;simp only[Lk.t];go_wp2;go_roundg ks2.length
    case measure=>rw[l.o];exact Nat.lt_succ_self _
    case rel=>exact⟨ks2,rfl,c.o,rfl⟩
   |doc=>
    have p:=rt;have q:=eF;have n:=dK;have f:=run_eql_iface_types (P:=prog) 117 415 (.pointer (some ⟨b2,0,none⟩)) (.pointer (some a)) underlying61 (by decide) wr;simp only[Lk.off]at b;simp only[Lk.t];go_wp2;go_roundg ks2.length
    case measure=>rw[l.o];exact Nat.lt_succ_self _
    case rel=>exact⟨ks2,rfl,c.o,rfl⟩
   |evt=>
    have p:=ru;have q:=eG;have n:=dL;have f:=run_eql_iface_types (P:=prog) 118 415 (.pointer (some ⟨b2,0,none⟩)) (.pointer (some a)) underlying61 (by decide) wr;simp only[Lk.off]at b;simp only[Lk.t];go_wp2;go_roundg ks2.length
    case measure=>rw[l.o];exact Nat.lt_succ_self _
    case rel=>exact⟨ks2,rfl,c.o,rfl⟩
   |srv=>
    have p:=rB;have q:=eH;have n:=dM;have f:=run_eql_iface_types (P:=prog) 188 415 (.pointer (some ⟨b2,0,none⟩)) (.pointer (some a)) underlying61 (by decide) wr;simp only[Lk.off]at b;simp only[Lk.t];go_wp2;go_roundg ks2.length
    case measure=>rw[l.o];exact Nat.lt_succ_self _
    case rel=>exact⟨ks2,rfl,c.o,rfl⟩
theorem qD(w:World)(a b:Addr)(ks:List (Lk×ByteArray))(ev:Value)(hch:Chn w a ks ev)(hne:a≠b)(ca cb:Array Value)(ta tb:TypeId)(ha:w.heap[a.block]? =some (.cells ca ta (0,0)))(hb:w.heap[b.block]? =some (.cells cb tb (0,0))):
  Calls prog 66 #[ev,ax b] w fun e w'=>e=.returned (.bool false)∧w'=w:=by
 have c:=ae (vj w a b ks ev hch hne ca cb ta tb ha hb);have f:=cH;have d:=ep;have g:=db;obtain⟨t0,u0,rfl⟩:=hch.iface;clear hch;unfold ax at *;go_enter func66,ntmps66;go_wp2_with fail
 refine c.o.mono ?_;rintro e w' ⟨rfl,rfl⟩;go_wp2;go_ret;exact⟨rfl,rfl⟩
theorem Ay(w:World)(a:Addr)(ks:List (Lk×ByteArray))(ev:Value)(hch:Chn w a ks ev):
  Calls prog 66 #[ev,ax a] w fun e w'=>e=.returned (.bool true)∧w'=w:=by
 have b:=ae (vh w a ks ev hch);have d:=cH;have c:=ep;have f:=db;obtain⟨t0,u0,rfl⟩:=hch.iface;clear hch;unfold ax at *;go_enter func66,ntmps66;go_wp2_with fail
 refine b.o.mono ?_;rintro e w' ⟨rfl,rfl⟩;go_wp2;go_ret;exact⟨rfl,rfl⟩
end
end Go.Proofs.YtocligpfmfmihaaGreatDoor
