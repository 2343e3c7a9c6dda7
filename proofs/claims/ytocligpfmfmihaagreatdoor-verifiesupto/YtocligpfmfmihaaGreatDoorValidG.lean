import Derived.Shelf.Unicode.ValidAny
import Derived.Test.YtocligpfmfmihaaGreatDoorSgn4G
import Derived.LaidSub
import Derived.Lib.LaidU8T
import Derived.Lay
import Derived.Stop.Joined
set_option maxHeartbeats 2000000
set_option maxRecDepth 20000
/-
 DERIVED:THE SHELF's CONTRACTS AT THIS DUMP,IN PLAIN WORDS (tools/lay-plain.mjs out of 'TryzValLay.lean',which tools/lay-shelf.mjs wrote):THE SAME DECLARATIONS UNDER THE SAME NAMES: 'import', 'namespace', 'open', 'def', 'theorem' AND NOTHING ELSE:no command of the shelf's:FOR A HAND-IN. Each laying:the table of numbers ('.._ren') and one theorem,a field a fact of the dump's own or the kernel's comparison;each contract:ONE APPLICATION.
-/
namespace Go.Proofs
open Go.Proofs.Tryz
open Go.Shelf
def Tryz.lays196_ren:Go.Shelf.Ren:=⟨fun | 196=>44 | 259=>77 | n=>n,fun | 9=>9 | 4=>4 | 3=>3 | 5=>5 | 12=>12 | 119=>139 | 0=>0 | 46=>143 | 139=>142 | 138=>141 | 53=>241 | n=>n,fun | 3=>4 | 4=>5 | n=>n⟩
theorem Tryz.lays196:Go.Proofs.Lays.n196 prog Tryz.lays196_ren:={
 mixed:=by kernel_rfl
 f196:=func44.trans (congrArg some (by kernel_rfl))
 f259:=func77.trans (congrArg some (by kernel_rfl))
 t0:=underlying0
 a0:=Tryz.isAgg0
 z0:=Tryz.sizeOf0
 v0:=Tryz.zeroValue0
 t3:=underlying3
 a3:=Tryz.isAgg3
 z3:=Tryz.sizeOf3
 v3:=Tryz.zeroValue3
 t4:=underlying4
 a4:=Tryz.isAgg4
 z4:=Tryz.sizeOf4
 v4:=Tryz.zeroValue4
 t5:=underlying5
 a5:=Tryz.isAgg5
 z5:=Tryz.sizeOf5
 v5:=Tryz.zeroValue5
 t9:=underlying9
 a9:=Tryz.isAgg9
 z9:=Tryz.sizeOf9
 v9:=Tryz.zeroValue9
 t12:=underlying12
 a12:=Tryz.isAgg12
 z12:=Tryz.sizeOf12
 v12:=Tryz.zeroValue12
 t46:=underlying143
 a46:=Tryz.isAgg143
 z46:=Tryz.sizeOf143
 v46:=Tryz.zeroValue143
 t53:=underlying241
 a53:=Tryz.isAgg241
 z53:=Tryz.sizeOf241
 v53:=Tryz.zeroValue241
 t119:=underlying139
 a119:=Tryz.isAgg139
 z119:=Tryz.sizeOf139
 t138:=underlying141
 a138:=Tryz.isAgg141
 z138:=Tryz.sizeOf141
 v138:=Tryz.zeroValue141
 t139:=underlying142
 a139:=Tryz.isAgg142
 z139:=Tryz.sizeOf142
 v139:=Tryz.zeroValue142
 g3:=by kernel_rfl
 g4:=by kernel_rfl }
open Go.RowKit Go.Lib in
theorem Tryz.utf8_ValidString(s:ByteArray)(w:World)(hs:s.size≤9223372036854775807)(hT:Lib.Utf8Tabs 4 5 w):
  Calls prog 44 #[.string s] w fun e w'=>e=.returned (.bool (Lib.validD s.data.toList))∧Below w.heap.size w w':=Any.utf8_ValidString Tryz.lays196 s w hs hT
end Go.Proofs
namespace Go.Proofs.YtocligpfmfmihaaGreatDoor
open Go.Proofs.Tryz
open Go Go.RowKit Go.Maps
theorem tq{w w':World}(h:Below w.heap.size w w'):Kp (fun _=>False) w w':=⟨h.os,h.tape,h.output,h.size,fun k hk _=>h.block k hk⟩
theorem pL(W:World)(hG:GL W)(l:Bs)(hl:l.length≤2000000)(w:World)(ho:Below W.heap.size W w):
  Calls prog 44 #[.string ⟨l.toArray⟩] w fun e w'=>e=.returned (.bool (Lib.validD l))∧Kp (fun _=>False) w w':=by
 refine (Tryz.utf8_ValidString ⟨l.toArray⟩ w (by rw[aN];omega) (hG.tabs' ho)).mono ?_;rintro e w1 ⟨rfl,a⟩;exact⟨rfl,tq a⟩
theorem xW(W:World)(hG:GL W)(s:ByteArray)(sv id sig:Bs)(h1:sv.length≤2000000)(h2:id.length≤2000000)(h3:sig.length≤2000000)(w:World)(ho:Below W.heap.size W w):
  Calls prog 19 #[.string s,.string ⟨sv.toArray⟩,.string ⟨id.toArray⟩,.string ⟨sig.toArray⟩] w fun e w'=>e=.returned (.tuple #[.string ⟨(bB s.data.toList sv id sig).1.toArray⟩,.int .i64 ((bB s.data.toList sv id sig).2:Int)])∧Kp (fun _=>False) w w':=by
 go_enter func19,ntmps19;go_wp2_with fail
 refine (gN W hG s w ho).mono ?_;rintro e w1 ⟨x,⟨n,hn,a,rfl⟩ | ⟨o,b,a,G,rfl,R⟩⟩
 ·have f:Hid (bB s.data.toList sv id sig=([],n)):=by show _=_;unfold bB fF;rw[a];rfl
  have X:((n:Int) != 0)=true:=by simp;omega
  clear a;go_wp2;go_ret2
  exact⟨by rw[f.o];rfl,x⟩
 ·have i:=am ho x
  have J:PoL w1 (some ⟨b,0,none⟩) o:=Or.inr ⟨G,b,rfl,R.frame (fun _ _=>rfl) (fun c hc=>hc.2)⟩
  have v:(cJ (.obj (eM o sv id sig))).length≤1000000000:=by
   unfold aM eh at a;split at a
   ·cases a
   ·rename_i l hv
    cases a
    split at hv
    ·cases hv
    ·rename_i hl
     cases hp:dk s.data.toList with
     |none=>rw[hp]at hv;cases hv
     |some j=>
      rw[hp]at hv;cases hv
      have:=(qt hp (by omega) sv id sig h1 h2 h3).2;omega
   ·cases a
  have d:=ae (An a v);clear a R v;go_wp2_with fail
  refine (pL W hG sv h1 w1 i).mono ?_;rintro e w2 ⟨rfl,y⟩;have k:=am i y;go_wp2_with fail
  refine (pL W hG id h2 w2 k).mono ?_;rintro e w3 ⟨rfl,z⟩;have t:=am k z;go_wp2_with fail
  refine (pL W hG sig h3 w3 t).mono ?_;rintro e w4 ⟨rfl,C⟩;have E:=J.kp ((y.trans z).trans C);have g:=((x.trans y).trans z).trans C;clear J i k t x y z C
  cases va:Lib.validD sv with
  |false=>
   have f:Hid (bB s.data.toList sv id sig=([],2)):=by show _=_;unfold bB fF;rw[d.o.1];simp[va,oV]
   go_wp2;go_ret2
   exact⟨by rw[f.o];rfl,g⟩
  |true=>
   cases vb:Lib.validD id with
   |false=>
    have f:Hid (bB s.data.toList sv id sig=([],2)):=by show _=_;unfold bB fF;rw[d.o.1];simp[va,vb,oV]
    go_wp2;go_ret2
    exact⟨by rw[f.o];rfl,g⟩
   |true=>
    cases vc:Lib.validD sig with
    |false=>
     have f:Hid (bB s.data.toList sv id sig=([],2)):=by show _=_;unfold bB fF;rw[d.o.1];simp[va,vb,vc,oV]
     go_wp2;go_ret2
     exact⟨by rw[f.o];rfl,g⟩
    |true=>
     have f:Hid (bB s.data.toList sv id sig=(cJ (.obj (eM o sv id sig)),0)):=by show _=_;unfold bB fF;rw[d.o.1];simp[va,vb,vc,oV]
     clear va vb vc;go_wp2_with fail
     refine (wU w4 _ o E kSig).mono ?_;rintro e w5 ⟨Y,rfl,rfl,F⟩;go_wp2_with fail
     refine (wU w5 _ _ F sv).mono ?_;rintro e h ⟨Z,rfl,rfl,N⟩;have A:Kp (fun _=>False) h (h.alloc (.cells #[.int .u8 34,.int .i64 0,.string ⟨sig.toArray⟩,.slice none 0 0,.slice none 0 0] 80)):=(Kp.refl _ _).alloc _;have O:RR (h.alloc (.cells #[.int .u8 34,.int .i64 0,.string ⟨sig.toArray⟩,.slice none 0 0,.slice none 0 0] 80)) (fun c=>c < (h.alloc (.cells #[.int .u8 34,.int .i64 0,.string ⟨sig.toArray⟩,.slice none 0 0,.slice none 0 0] 80)).heap.size) (.str sig) h.heap.size:=.str sig (by simp) (heap_alloc_new h _);have r:=N.kp A;have p:=F.kp A;have K:=E.kp A;have hp:=rR _ Z _ r id h.heap.size (.str sig) O;have u:(h.alloc (.cells #[.int .u8 34,.int .i64 0,.string ⟨sig.toArray⟩,.slice none 0 0,.slice none 0 0] 80)).heap.size=h.heap.size+1:=by simp
     rw[u]at hp;have H:=ae hp;clear hp u;clear N F E O r;go_wp2_with fail
     refine H.o.mono ?_;rintro e w8 ⟨rfl,D,P⟩;have q:=p.kp D;have L:=K.kp D;have m:=ae (rR w8 Y _ q sv _ _ P);clear q p P H;go_wp2_with fail
     refine m.o.mono ?_;rintro e w9 ⟨rfl,I,Q⟩;have M:=L.kp I;have B:=ae (rR w9 _ _ M kSig _ _ Q);clear M L K Q m;go_wp2_with fail
     refine B.o.mono ?_;rintro e wA ⟨rfl,T,V⟩;have S:=ae (xX V d.o.2 wA (Kp.refl _ _));go_wp2_with fail
     refine S.o.mono ?_;rintro e wB ⟨rfl,U⟩;go_wp2;go_ret2
     refine⟨by rw[f.o];rfl,(((((g.trans A).trans D).trans I).trans T).trans U)⟩
end Go.Proofs.YtocligpfmfmihaaGreatDoor
namespace Go.Proofs.YtocligpfmfmihaaGreatDoor
open Go.Proofs.Tryz
open Go Go.RowKit Go.ChangeShapes
theorem AC{P:Program}{w:World}:∀ {l:List (String×DataW Unit)} {ps:List MemPlace},DataW.LaidVars P w l ps→∀n d,(n,d) ∈ l →
  ∃g t cs a p,P.globalNamed n=some g∧(P.globals[g]?).map (·.type)=some t∧w.var? P n=some cs∧DataW.trod (fun _=>()) P w 0 (fun _=>true) false a t cs.toList=some (d,p)∧∀x ∈ MemPlace.row ⟨g,0,none⟩ cs.size ++p,x ∈ ps
 | [],_,_,_,_,hm=>by cases hm
 | (n',d') :: r,ps,h,n,d,hm=>by
  obtain⟨g,t,cs,a,p,q,i,j,k,m,o,rfl⟩:=h;rcases List.mem_cons.1 hm with e | e
  ·cases e
   exact⟨g,t,cs,a,p,i,j,k,m,fun x hx=>List.mem_append_left _ hx⟩
  ·obtain⟨f,B,c,b,A,s,u,v,y,z⟩:=AC o n d e
   exact⟨f,B,c,b,A,s,u,v,y,fun x hx=>List.mem_append_right _ (z x hx)⟩
def Sen(W:World)(g:Nat)(text:List UInt8):Prop:=∃(a:Addr) (s:ByteArray) (c:Array Value) (t:TypeId),W.cell? ⟨g,0,none⟩=some (ax a)∧W.cell? a=some (.string s)∧s.data.toList=text∧W.heap[a.block]? =some (.cells c t)
def txt:DataW Unit→List UInt8
 |.iface _ (.ptr (.agg [.lit (.string t)]))=>t
 |_=>[]
theorem DL: "*" ++ "errors.errorString" = "*errors.errorString" :=by decide
theorem Eq(u:TypeId)(h:prog.typeName? 3 u=some "*errors.errorString"):u=415:=
 typeName_ptr_named (nm:= "errors.errorString") (by rw[DL];kernel_rfl) (by kernel_rfl) (by decide) u (by rw[DL];exact h)
theorem Db:prog.cellsOf 435=1:=by kernel_rfl
theorem Dc:prog.cellsOf 9=1:=by kernel_rfl
theorem bg{L:List (String×DataW Unit)}{W:World}{n:String}{d:DataW Unit}{g:Nat}(h:laidMet prog L W)(hm:(n,d) ∈ L)(hd:d=.iface "*errors.errorString" (.ptr (.agg [.lit (.string (txt d))])))
  (hg:prog.globalNamed n=some g) (ht:(prog.globals[g]?).map (·.type)=some 61):Sen W g (txt d):=by
 obtain⟨ps,r,q,a⟩:=h;obtain⟨z,A,cs,j,p,t,w,k,l,m⟩:=AC r n d hm;obtain rfl:=Option.some.inj (hg.symm.trans t);obtain rfl:=Option.some.inj (ht.symm.trans w);obtain⟨x⟩:=cs
 have i:∀u v,x=[.iface u v]→Value.okWide prog W .any 0 u v:=fun u v e=>by
  subst e;exact (a g 0 (m _ (by simp[MemPlace.row]))).2 u v ((World.var?_cell hg k 0).trans rfl)
 rw[hd]at l;obtain⟨a0,y,rfl,c,f,s,rfl⟩:=errorString_of_trod underlying61 Eq underlying415 underlying435 rfl rfl underlying9 Db Dc l i;obtain⟨o,t0,b⟩:=(a a0.block a0.off (m _ (by simp[MemPlace.row]))).1;exact⟨a0,y,o,t0,(World.var?_cell hg k 0).trans rfl,c,f,b⟩
theorem Sen.ne{W:World}{g g':Nat}{x y:List UInt8}(h1:Sen W g x)(h2:Sen W g' y)(hxy:x≠y)(a:Addr)(h:W.cell? ⟨g,0,none⟩=some (ax a)):W.cell? ⟨g',0,none⟩≠some (ax a):=by
 intro e;obtain⟨f,i,_,_,b,c,d,_⟩:=h1;obtain⟨a2,j,_,_,f1,f2,f3,_⟩:=h2;rw[h]at b;rw[e]at f1;simp only[ax,Option.some.injEq,Value.iface.injEq,Value.pointer.injEq,true_and]at b f1;subst b;subst f1;rw[c]at f2;injection f2 with f2
 injection f2 with f2
 subst f2;exact hxy (d.symm.trans f3)
theorem Sen.errs{W:World}{g:Nat}{x a b c d:List UInt8}(h:Sen W g x)(h1:Sen W 0 a)(h2:Sen W 1 b)(h3:Sen W 2 c)(h4:Sen W 3 d)
  (n1:x≠a) (n2:x≠b) (n3:x≠c) (n4:x≠d):∃cb,mN W g cb:=by
 have i:=h;obtain⟨e,s,m,t,f,n,o,j⟩:=h;refine⟨e,f,ag j, ?_⟩;intro k l;refine⟨?_,m,t,j⟩;simp only[List.mem_cons,List.not_mem_nil,or_false]at l;rcases l with rfl | rfl | rfl | rfl
 ·exact i.ne h1 n1 e f
 ·exact i.ne h2 n2 e f
 ·exact i.ne h3 n3 e f
 ·exact i.ne h4 n4 e f
theorem Sen.three{W:World}{g:Nat}{x:List UInt8}(h:Sen W g x):∃a c t,W.cell? ⟨g,0,none⟩=some (ax a)∧W.heap[a.block]? =some (.cells c t):=by
 obtain⟨b,s,d,t,e,i,j,f⟩:=h;exact⟨b,d,t,e,f⟩
end Go.Proofs.YtocligpfmfmihaaGreatDoor
namespace Go.Proofs.YtocligpfmfmihaaGreatDoor
open Go.Proofs.Tryz
open Go Go.RowKit Go.ChangeShapes Go.Lib Go.Shelf
def u8R:Ren:=⟨fun x=>x,fun | 5=>5 | 119=>139 | 138=>141 | 139=>142 | _=>0,fun | 3=>4 | 4=>5 | _=>0⟩
theorem u8T:U8Types prog u8R:=⟨underlying5,underlying139,underlying141,underlying142⟩
theorem u8X:U8Extra prog u8R:=⟨by kernel_rfl,by kernel_rfl,by kernel_rfl,by kernel_rfl,by kernel_rfl,by kernel_rfl,by kernel_rfl⟩
theorem Di:Rows.laid_unicode_utf8_first=firstData:=by kernel_rfl
theorem Ef:(Rows.laid_unicode_utf8_acceptRanges:DataW Unit)=acceptData:=by kernel_rfl
theorem Eo:(Rows.laid_internal_strconv_uint64pow10:DataW Unit)=tabData .u64 pow10Tab:=by kernel_rfl
theorem rtT:(prog.cutTypes.find? (·.1 == "internal/reflectlite.rtype")).map (·.2)=some 289:=by kernel_rfl
theorem DA:((List.range 446).filter fun t=>prog.rowNamed t [101,114,114,111,114])=[61]:=by kernel_rfl
theorem DP:prog.types.size=446:=by kernel_rfl
theorem etG:prog.globalNamed "errors.errorType" =some 9:=by kernel_rfl
theorem powG:prog.globalNamed "internal/strconv.uint64pow10" =some 28:=by kernel_rfl
theorem powY:(prog.globals[28]?).map (·.type)=some 393:=by kernel_rfl
theorem c8:prog.cellsOf 241=1:=by kernel_rfl
theorem c20:prog.cellsOf 393=20:=by kernel_rfl
theorem lastG:prog.globalNamed "math/bits.deBruijn64tab" =some 30:=by kernel_rfl
theorem oe:prog.globalNamed "notary/value.errUTF8" =some 10∧(prog.globals[10]?).map (·.type)=some 61:=⟨by kernel_rfl,by kernel_rfl⟩
theorem pV:prog.globalNamed "notary/value.errEnd" =some 24∧(prog.globals[24]?).map (·.type)=some 61:=⟨by kernel_rfl,by kernel_rfl⟩
theorem nV:prog.globalNamed "notary/value.errRest" =some 8∧(prog.globals[8]?).map (·.type)=some 61:=⟨by kernel_rfl,by kernel_rfl⟩
theorem od:prog.globalNamed "notary/value.errSign" =some 19∧(prog.globals[19]?).map (·.type)=some 61:=⟨by kernel_rfl,by kernel_rfl⟩
theorem nS:prog.globalNamed "notary/value.errDeep" =some 23∧(prog.globals[23]?).map (·.type)=some 61:=⟨by kernel_rfl,by kernel_rfl⟩
theorem ll:prog.globalNamed "notary/value.errNumber" =some 22∧(prog.globals[22]?).map (·.type)=some 61:=⟨by kernel_rfl,by kernel_rfl⟩
theorem mA:prog.globalNamed "notary/value.errGreat" =some 21∧(prog.globals[21]?).map (·.type)=some 61:=⟨by kernel_rfl,by kernel_rfl⟩
theorem kS:prog.globalNamed "notary/value.errControl" =some 20∧(prog.globals[20]?).map (·.type)=some 61:=⟨by kernel_rfl,by kernel_rfl⟩
theorem lj:prog.globalNamed "notary/value.errEscape" =some 25∧(prog.globals[25]?).map (·.type)=some 61:=⟨by kernel_rfl,by kernel_rfl⟩
theorem jc:prog.globalNamed "notary/value.errSurrogate" =some 27∧(prog.globals[27]?).map (·.type)=some 61:=⟨by kernel_rfl,by kernel_rfl⟩
theorem mC:prog.globalNamed "notary/value.errTwice" =some 18∧(prog.globals[18]?).map (·.type)=some 61:=⟨by kernel_rfl,by kernel_rfl⟩
theorem lk:prog.globalNamed "notary/value.errInside" =some 12∧(prog.globals[12]?).map (·.type)=some 61:=⟨by kernel_rfl,by kernel_rfl⟩
theorem fw:prog.globalNamed "notary/notary.errLong" =some 0∧(prog.globals[0]?).map (·.type)=some 61:=⟨by kernel_rfl,by kernel_rfl⟩
theorem er:prog.globalNamed "notary/notary.errObject" =some 1∧(prog.globals[1]?).map (·.type)=some 61:=⟨by kernel_rfl,by kernel_rfl⟩
theorem dH:prog.globalNamed "notary/notary.errConflict" =some 2∧(prog.globals[2]?).map (·.type)=some 61:=⟨by kernel_rfl,by kernel_rfl⟩
theorem dX:prog.globalNamed "notary/notary.errUnknown" =some 3∧(prog.globals[3]?).map (·.type)=some 61:=⟨by kernel_rfl,by kernel_rfl⟩
theorem D5{L:List (String×DataW Unit)}{W:World}(h:laidMetH prog L W)(hm:∀x ∈ Rows.orderedRow.laid,x ∈ L):NG W:=by
 obtain⟨k,X⟩:=laidMetH_iff.1 h
 have m:∀(i:Nat) (x:String×DataW Unit),Rows.orderedRow.laid[i]? =some x→x.2.handleName?.isNone=true→x ∈ L.filter fun x=>x.2.handleName?.isNone:=
  fun i x hi N=>List.mem_filter.2 ⟨hm x (List.mem_of_getElem? hi),N⟩
 have y:Sen W 10 (txt Rows.laid_notary_value_errUTF8):=bg k (m 5 ("notary/value.errUTF8",Rows.laid_notary_value_errUTF8) rfl rfl) rfl oe.1 oe.2;have A:Sen W 24 (txt Rows.laid_notary_value_errEnd):=bg k (m 6 ("notary/value.errEnd",Rows.laid_notary_value_errEnd) rfl rfl) rfl pV.1 pV.2;have v:Sen W 8 (txt Rows.laid_notary_value_errRest):=bg k (m 7 ("notary/value.errRest",Rows.laid_notary_value_errRest) rfl rfl) rfl nV.1 nV.2;have w:Sen W 19 (txt Rows.laid_notary_value_errSign):=bg k (m 8 ("notary/value.errSign",Rows.laid_notary_value_errSign) rfl rfl) rfl od.1 od.2;have s:Sen W 23 (txt Rows.laid_notary_value_errDeep):=bg k (m 9 ("notary/value.errDeep",Rows.laid_notary_value_errDeep) rfl rfl) rfl nS.1 nS.2;have o:Sen W 22 (txt Rows.laid_notary_value_errNumber):=bg k (m 10 ("notary/value.errNumber",Rows.laid_notary_value_errNumber) rfl rfl) rfl ll.1 ll.2;have q:Sen W 21 (txt Rows.laid_notary_value_errGreat):=bg k (m 11 ("notary/value.errGreat",Rows.laid_notary_value_errGreat) rfl rfl) rfl mA.1 mA.2;have j:Sen W 20 (txt Rows.laid_notary_value_errControl):=bg k (m 12 ("notary/value.errControl",Rows.laid_notary_value_errControl) rfl rfl) rfl kS.1 kS.2;have l:Sen W 25 (txt Rows.laid_notary_value_errEscape):=bg k (m 13 ("notary/value.errEscape",Rows.laid_notary_value_errEscape) rfl rfl) rfl lj.1 lj.2;have f:Sen W 27 (txt Rows.laid_notary_value_errSurrogate):=bg k (m 14 ("notary/value.errSurrogate",Rows.laid_notary_value_errSurrogate) rfl rfl) rfl jc.1 jc.2;have r:Sen W 18 (txt Rows.laid_notary_value_errTwice):=bg k (m 15 ("notary/value.errTwice",Rows.laid_notary_value_errTwice) rfl rfl) rfl mC.1 mC.2;have n:Sen W 12 (txt Rows.laid_notary_value_errInside):=bg k (m 16 ("notary/value.errInside",Rows.laid_notary_value_errInside) rfl rfl) rfl lk.1 lk.2;have e:Sen W 0 (txt Rows.laid_notary_notary_errLong):=bg k (m 17 ("notary/notary.errLong",Rows.laid_notary_notary_errLong) rfl rfl) rfl fw.1 fw.2;have c:Sen W 1 (txt Rows.laid_notary_notary_errObject):=bg k (m 18 ("notary/notary.errObject",Rows.laid_notary_notary_errObject) rfl rfl) rfl er.1 er.2;have b:Sen W 2 (txt Rows.laid_notary_notary_errConflict):=bg k (m 19 ("notary/notary.errConflict",Rows.laid_notary_notary_errConflict) rfl rfl) rfl dH.1 dH.2;have d:Sen W 3 (txt Rows.laid_notary_notary_errUnknown):=bg k (m 20 ("notary/notary.errUnknown",Rows.laid_notary_notary_errUnknown) rfl rfl) rfl dX.1 dX.2;have z:=laidMet.reads k (m 21 ("unicode/utf8.first",Rows.laid_unicode_utf8_first) rfl (by kernel_rfl));have B:=laidMet.reads k (m 3 ("unicode/utf8.acceptRanges",Rows.laid_unicode_utf8_acceptRanges) rfl rfl);have C:=laidMet.reads k (m 2 ("internal/strconv.uint64pow10",Rows.laid_internal_strconv_uint64pow10) rfl rfl);have D:=laidMet.reads k (m 1 ("math/bits.deBruijn64tab",Rows.laid_math_bits_deBruijn64tab) rfl rfl);rw[Di]at z;rw[Ef]at B;rw[Eo]at C
 have K:31≤W.heap.size:=by
  obtain⟨g,t,cs,F,p,J,P,E,Q⟩:=D;have I:=Option.some.inj (lastG.symm.trans J);unfold World.var? at E;rw[J]at E;subst I;simp only[Option.bind_some]at E;rcases Nat.lt_or_ge 30 W.heap.size with h | h
  ·exact h
  ·rw[Array.getElem?_eq_none h]at E
   cases E
 have M:W.cell? ⟨9,0,none⟩=some (.iface 289 ((Value.agg #[Value.pointer (some (Addr.mk 31 61 none))]))):=by
  have N:=X ("errors.errorType",Rows.laid_errors_errorType) (List.mem_filter.2 ⟨hm _ (List.mem_of_getElem? (i:=4) rfl),rfl⟩);obtain⟨H,u,Z,R,S,T,U,O⟩:=N;have V:H=[101,114,114,111,114]:=(Option.some.inj R).symm;subst V;obtain rfl:=Option.some.inj (rtT.symm.trans S);have G:Z ∈ (List.range 446).filter fun t=>prog.rowNamed t [101,114,114,111,114]:=List.mem_filter.2 ⟨List.mem_range.2 (by rw[←DP];exact T),U⟩
  rw[DA]at G;obtain rfl:=List.mem_singleton.1 G;have Y:typeHandle prog 61=.pointer (some ⟨31,61,none⟩):=by kernel_rfl
  rw[Y]at O;simpa using World.var?_cell etG O 0
 refine⟨⟨⟨K, ?_⟩,utf8Tabs_of_readsT u8T u8X z B, ?_⟩,M,e.three,c.three,fun a=>e.ne c (by decide) a⟩
 ·intro g I
  simp only[List.mem_cons,List.not_mem_nil,or_false]at I;rcases I with rfl | rfl | rfl | rfl | rfl | rfl | rfl | rfl | rfl | rfl | rfl | rfl
  ·exact j.errs e c b d (by decide) (by decide) (by decide) (by decide)
  ·exact s.errs e c b d (by decide) (by decide) (by decide) (by decide)
  ·exact A.errs e c b d (by decide) (by decide) (by decide) (by decide)
  ·exact l.errs e c b d (by decide) (by decide) (by decide) (by decide)
  ·exact q.errs e c b d (by decide) (by decide) (by decide) (by decide)
  ·exact n.errs e c b d (by decide) (by decide) (by decide) (by decide)
  ·exact o.errs e c b d (by decide) (by decide) (by decide) (by decide)
  ·exact v.errs e c b d (by decide) (by decide) (by decide) (by decide)
  ·exact w.errs e c b d (by decide) (by decide) (by decide) (by decide)
  ·exact f.errs e c b d (by decide) (by decide) (by decide) (by decide)
  ·exact r.errs e c b d (by decide) (by decide) (by decide) (by decide)
  ·exact y.errs e c b d (by decide) (by decide) (by decide) (by decide)
 ·refine tabBelow_of_tabIs ?_
  obtain⟨g,t,cs,F,p,J,P,E,Q⟩:=C;obtain rfl:=Option.some.inj (powG.symm.trans J);obtain rfl:=Option.some.inj (powY.symm.trans P);unfold TabIs;rw[E,←cells_of_tab underlying393 underlying241 c8 c20 Q]
end Go.Proofs.YtocligpfmfmihaaGreatDoor
namespace Go.Proofs.YtocligpfmfmihaaGreatDoor
open Go.Proofs.Tryz
open Go Go.RowKit Go.ChangeShapes Go.Lib Go.Shelf
theorem nT:prog.globalNamed "notary/notary.errKind" =some 14∧(prog.globals[14]?).map (·.type)=some 61:=⟨by kernel_rfl,by kernel_rfl⟩
theorem nU:prog.globalNamed "notary/notary.errName" =some 13∧(prog.globals[13]?).map (·.type)=some 61:=⟨by kernel_rfl,by kernel_rfl⟩
theorem mx:prog.globalNamed "notary/notary.errBelow" =some 15∧(prog.globals[15]?).map (·.type)=some 61:=⟨by kernel_rfl,by kernel_rfl⟩
theorem my:prog.globalNamed "notary/notary.errCount" =some 16∧(prog.globals[16]?).map (·.type)=some 61:=⟨by kernel_rfl,by kernel_rfl⟩
theorem nR:prog.globalNamed "notary/notary.errBoth" =some 17∧(prog.globals[17]?).map (·.type)=some 61:=⟨by kernel_rfl,by kernel_rfl⟩
theorem jb:prog.globalNamed "notary/notary.errSignature" =some 7∧(prog.globals[7]?).map (·.type)=some 61:=⟨by kernel_rfl,by kernel_rfl⟩
theorem yd:∀x ∈ Rows.orderedRow.laid,x ∈ Rows.readsRow.laid:=by
 intro x b;rcases List.mem_iff_getElem?.1 b with⟨i,a⟩
 match i,a with
 |0,a=>exact (Option.some.inj a) ▸ List.mem_of_getElem? (i:=0) rfl
 |1,a=>exact (Option.some.inj a) ▸ List.mem_of_getElem? (i:=1) rfl
 |2,a=>exact (Option.some.inj a) ▸ List.mem_of_getElem? (i:=2) rfl
 |3,a=>exact (Option.some.inj a) ▸ List.mem_of_getElem? (i:=3) rfl
 |4,a=>exact (Option.some.inj a) ▸ List.mem_of_getElem? (i:=4) rfl
 |5,a=>exact (Option.some.inj a) ▸ List.mem_of_getElem? (i:=5) rfl
 |6,a=>exact (Option.some.inj a) ▸ List.mem_of_getElem? (i:=6) rfl
 |7,a=>exact (Option.some.inj a) ▸ List.mem_of_getElem? (i:=7) rfl
 |8,a=>exact (Option.some.inj a) ▸ List.mem_of_getElem? (i:=8) rfl
 |9,a=>exact (Option.some.inj a) ▸ List.mem_of_getElem? (i:=9) rfl
 |10,a=>exact (Option.some.inj a) ▸ List.mem_of_getElem? (i:=10) rfl
 |11,a=>exact (Option.some.inj a) ▸ List.mem_of_getElem? (i:=11) rfl
 |12,a=>exact (Option.some.inj a) ▸ List.mem_of_getElem? (i:=12) rfl
 |13,a=>exact (Option.some.inj a) ▸ List.mem_of_getElem? (i:=13) rfl
 |14,a=>exact (Option.some.inj a) ▸ List.mem_of_getElem? (i:=14) rfl
 |15,a=>exact (Option.some.inj a) ▸ List.mem_of_getElem? (i:=15) rfl
 |16,a=>exact (Option.some.inj a) ▸ List.mem_of_getElem? (i:=16) rfl
 |17,a=>exact (Option.some.inj a) ▸ List.mem_of_getElem? (i:=17) rfl
 |18,a=>exact (Option.some.inj a) ▸ List.mem_of_getElem? (i:=18) rfl
 |19,a=>exact (Option.some.inj a) ▸ List.mem_of_getElem? (i:=20) rfl
 |20,a=>exact (Option.some.inj a) ▸ List.mem_of_getElem? (i:=21) rfl
 |21,a=>exact (Option.some.inj a) ▸ List.mem_of_getElem? (i:=27) rfl
 |n+22,a=>cases a
theorem Sen.plain{W:World}{g:Nat}{x a b c d:List UInt8}(h:Sen W g x)(h1:Sen W 0 a)(h2:Sen W 1 b)(h3:Sen W 2 c)(h4:Sen W 3 d)
  (n1:x≠a) (n2:x≠b) (n3:x≠c) (n4:x≠d):∃q,W.cell? ⟨g,0,none⟩=some (ax q)∧Plain W q:=by
 have i:=h;obtain⟨e,s,l,t,f,n,o,m⟩:=h;refine⟨e,f,⟨l,t,m⟩, ?_⟩;intro k j;simp only[bh,List.mem_cons,List.not_mem_nil,or_false]at j;rcases j with rfl | rfl | rfl | rfl
 ·exact i.ne h1 n1 e f
 ·exact i.ne h2 n2 e f
 ·exact i.ne h3 n3 e f
 ·exact i.ne h4 n4 e f
theorem Dw{L:List (String×DataW Unit)}{W:World}(h:laidMetH prog L W)(hm:∀x ∈ Rows.readsRow.laid,x ∈ L):NG2 W:=by
 obtain⟨o,q⟩:=laidMetH_iff.1 h
 have m:∀(i:Nat) (x:String×DataW Unit),Rows.readsRow.laid[i]? =some x→x.2.handleName?.isNone=true→x ∈ L.filter fun x=>x.2.handleName?.isNone:=
  fun i x hi hx=>List.mem_filter.2 ⟨hm x (List.mem_of_getElem? hi),hx⟩
 have d:Sen W 0 (txt Rows.laid_notary_notary_errLong):=bg o (m 17 ("notary/notary.errLong",Rows.laid_notary_notary_errLong) rfl rfl) rfl fw.1 fw.2;have c:Sen W 1 (txt Rows.laid_notary_notary_errObject):=bg o (m 18 ("notary/notary.errObject",Rows.laid_notary_notary_errObject) rfl rfl) rfl er.1 er.2;have a:Sen W 2 (txt Rows.laid_notary_notary_errConflict):=bg o (m 20 ("notary/notary.errConflict",Rows.laid_notary_notary_errConflict) rfl rfl) rfl dH.1 dH.2;have b:Sen W 3 (txt Rows.laid_notary_notary_errUnknown):=bg o (m 21 ("notary/notary.errUnknown",Rows.laid_notary_notary_errUnknown) rfl rfl) rfl dX.1 dX.2;have l:Sen W 14 (txt Rows.laid_notary_notary_errKind):=bg o (m 22 ("notary/notary.errKind",Rows.laid_notary_notary_errKind) rfl rfl) rfl nT.1 nT.2;have n:Sen W 13 (txt Rows.laid_notary_notary_errName):=bg o (m 23 ("notary/notary.errName",Rows.laid_notary_notary_errName) rfl rfl) rfl nU.1 nU.2;have f:Sen W 15 (txt Rows.laid_notary_notary_errBelow):=bg o (m 24 ("notary/notary.errBelow",Rows.laid_notary_notary_errBelow) rfl rfl) rfl mx.1 mx.2;have j:Sen W 16 (txt Rows.laid_notary_notary_errCount):=bg o (m 25 ("notary/notary.errCount",Rows.laid_notary_notary_errCount) rfl rfl) rfl my.1 my.2;have k:Sen W 17 (txt Rows.laid_notary_notary_errBoth):=bg o (m 26 ("notary/notary.errBoth",Rows.laid_notary_notary_errBoth) rfl rfl) rfl nR.1 nR.2;have e:Sen W 7 (txt Rows.laid_notary_notary_errSignature):=bg o (m 19 ("notary/notary.errSignature",Rows.laid_notary_notary_errSignature) rfl rfl) rfl jb.1 jb.2;refine⟨D5 h (fun x hx=>hm x (yd x hx)), ?_, ?_⟩
 ·intro g p
  simp only[bh,List.mem_cons,List.not_mem_nil,or_false]at p;rcases p with rfl | rfl | rfl | rfl
  ·exact d.three
  ·exact c.three
  ·exact a.three
  ·exact b.three
 ·intro g p
  simp only[List.mem_cons,List.not_mem_nil,or_false]at p;rcases p with rfl | rfl | rfl | rfl | rfl | rfl
  ·exact l.plain d c a b (by decide) (by decide) (by decide) (by decide)
  ·exact n.plain d c a b (by decide) (by decide) (by decide) (by decide)
  ·exact f.plain d c a b (by decide) (by decide) (by decide) (by decide)
  ·exact j.plain d c a b (by decide) (by decide) (by decide) (by decide)
  ·exact k.plain d c a b (by decide) (by decide) (by decide) (by decide)
  ·exact e.plain d c a b (by decide) (by decide) (by decide) (by decide)
end Go.Proofs.YtocligpfmfmihaaGreatDoor
namespace Go.Proofs.YtocligpfmfmihaaGreatDoor
open Go.Proofs.Tryz
open Go Go.RowKit Go.ChangeShapes Go.Lib Go.Shelf
theorem mB:prog.globalNamed "notary/notary.errOther" =some 11∧(prog.globals[11]?).map (·.type)=some 61:=⟨by kernel_rfl,by kernel_rfl⟩
theorem mz:prog.globalNamed "notary/notary.errFails" =some 6∧(prog.globals[6]?).map (·.type)=some 61:=⟨by kernel_rfl,by kernel_rfl⟩
theorem vM:∀x ∈ Rows.readsRow.laid,x ∈ Rows.learnsUptoRow.laid:=by
 intro x b;rcases List.mem_iff_getElem?.1 b with⟨i,a⟩
 match i,a with
 |0,a=>exact (Option.some.inj a) ▸ List.mem_of_getElem? (i:=0) rfl
 |1,a=>exact (Option.some.inj a) ▸ List.mem_of_getElem? (i:=1) rfl
 |2,a=>exact (Option.some.inj a) ▸ List.mem_of_getElem? (i:=2) rfl
 |3,a=>exact (Option.some.inj a) ▸ List.mem_of_getElem? (i:=3) rfl
 |4,a=>exact (Option.some.inj a) ▸ List.mem_of_getElem? (i:=4) rfl
 |5,a=>exact (Option.some.inj a) ▸ List.mem_of_getElem? (i:=5) rfl
 |6,a=>exact (Option.some.inj a) ▸ List.mem_of_getElem? (i:=6) rfl
 |7,a=>exact (Option.some.inj a) ▸ List.mem_of_getElem? (i:=7) rfl
 |8,a=>exact (Option.some.inj a) ▸ List.mem_of_getElem? (i:=8) rfl
 |9,a=>exact (Option.some.inj a) ▸ List.mem_of_getElem? (i:=9) rfl
 |10,a=>exact (Option.some.inj a) ▸ List.mem_of_getElem? (i:=10) rfl
 |11,a=>exact (Option.some.inj a) ▸ List.mem_of_getElem? (i:=11) rfl
 |12,a=>exact (Option.some.inj a) ▸ List.mem_of_getElem? (i:=12) rfl
 |13,a=>exact (Option.some.inj a) ▸ List.mem_of_getElem? (i:=13) rfl
 |14,a=>exact (Option.some.inj a) ▸ List.mem_of_getElem? (i:=14) rfl
 |15,a=>exact (Option.some.inj a) ▸ List.mem_of_getElem? (i:=15) rfl
 |16,a=>exact (Option.some.inj a) ▸ List.mem_of_getElem? (i:=16) rfl
 |17,a=>exact (Option.some.inj a) ▸ List.mem_of_getElem? (i:=17) rfl
 |18,a=>exact (Option.some.inj a) ▸ List.mem_of_getElem? (i:=18) rfl
 |19,a=>exact (Option.some.inj a) ▸ List.mem_of_getElem? (i:=19) rfl
 |20,a=>exact (Option.some.inj a) ▸ List.mem_of_getElem? (i:=20) rfl
 |21,a=>exact (Option.some.inj a) ▸ List.mem_of_getElem? (i:=21) rfl
 |22,a=>exact (Option.some.inj a) ▸ List.mem_of_getElem? (i:=22) rfl
 |23,a=>exact (Option.some.inj a) ▸ List.mem_of_getElem? (i:=23) rfl
 |24,a=>exact (Option.some.inj a) ▸ List.mem_of_getElem? (i:=24) rfl
 |25,a=>exact (Option.some.inj a) ▸ List.mem_of_getElem? (i:=25) rfl
 |26,a=>exact (Option.some.inj a) ▸ List.mem_of_getElem? (i:=26) rfl
 |27,a=>exact (Option.some.inj a) ▸ List.mem_of_getElem? (i:=29) rfl
 |n+28,a=>cases a
theorem Dx{L:List (String×DataW Unit)}{W:World}(h:laidMetH prog L W)(hm:∀x ∈ Rows.learnsUptoRow.laid,x ∈ L):NG3 W:=by
 obtain⟨n,r⟩:=laidMetH_iff.1 h
 have m:∀(i:Nat) (x:String×DataW Unit),Rows.learnsUptoRow.laid[i]? =some x→x.2.handleName?.isNone=true→x ∈ L.filter fun x=>x.2.handleName?.isNone:=
  fun i x hi hx=>List.mem_filter.2 ⟨hm x (List.mem_of_getElem? hi),hx⟩
 have e:Sen W 0 (txt Rows.laid_notary_notary_errLong):=bg n (m 17 ("notary/notary.errLong",Rows.laid_notary_notary_errLong) rfl rfl) rfl fw.1 fw.2;have d:Sen W 1 (txt Rows.laid_notary_notary_errObject):=bg n (m 18 ("notary/notary.errObject",Rows.laid_notary_notary_errObject) rfl rfl) rfl er.1 er.2;have b:Sen W 2 (txt Rows.laid_notary_notary_errConflict):=bg n (m 20 ("notary/notary.errConflict",Rows.laid_notary_notary_errConflict) rfl rfl) rfl dH.1 dH.2;have c:Sen W 3 (txt Rows.laid_notary_notary_errUnknown):=bg n (m 21 ("notary/notary.errUnknown",Rows.laid_notary_notary_errUnknown) rfl rfl) rfl dX.1 dX.2;have j:Sen W 11 (txt Rows.laid_notary_notary_errOther):=bg n (m 27 ("notary/notary.errOther",Rows.laid_notary_notary_errOther) rfl rfl) rfl mB.1 mB.2;have f:Sen W 6 (txt Rows.laid_notary_notary_errFails):=bg n (m 28 ("notary/notary.errFails",Rows.laid_notary_notary_errFails) rfl rfl) rfl mz.1 mz.2;refine⟨Dw h (fun x hx=>hm x (vM x hx)), ?_, ?_⟩
 ·intro g o q p l a k
  simp only[bh,List.mem_cons,List.not_mem_nil,or_false]at o p;rcases o with rfl | rfl | rfl | rfl <;> rcases p with rfl | rfl | rfl | rfl
  ·exact absurd rfl l
  ·exact e.ne d (by decide) a k
  ·exact e.ne b (by decide) a k
  ·exact e.ne c (by decide) a k
  ·exact d.ne e (by decide) a k
  ·exact absurd rfl l
  ·exact d.ne b (by decide) a k
  ·exact d.ne c (by decide) a k
  ·exact b.ne e (by decide) a k
  ·exact b.ne d (by decide) a k
  ·exact absurd rfl l
  ·exact b.ne c (by decide) a k
  ·exact c.ne e (by decide) a k
  ·exact c.ne d (by decide) a k
  ·exact c.ne b (by decide) a k
  ·exact absurd rfl l
 ·intro g o
  simp only[List.mem_cons,List.not_mem_nil,or_false]at o;rcases o with rfl | rfl
  ·exact j.plain e d b c (by decide) (by decide) (by decide) (by decide)
  ·exact f.plain e d b c (by decide) (by decide) (by decide) (by decide)
end Go.Proofs.YtocligpfmfmihaaGreatDoor
namespace Go.Proofs.YtocligpfmfmihaaGreatDoor.wl
open Go.Proofs.Tryz
open Go
noncomputable def plainL:List (String×DataW Unit):=Rows.learnsUptoRow.laid.filter fun x=>x.2.handleName?.isNone
noncomputable def oh(os:Os):World:=
 let w0:=World.holding prog os ⟨#[], #[],[]⟩
 { w0 with heap:=w0.heap.modify 9 fun
   |.cells _ t frozen=>.cells #[.iface 289 ((Value.agg #[Value.pointer (some (Addr.mk 31 61 none))]))] t frozen
   |o=>o }
noncomputable def lWorld(os:Os):World:=(oh os).layVars prog plainL
theorem lWorld_os(os:Os):(lWorld os).os=os:=World.layVars_os _ _ _
theorem Ap(os:Os):(oh os).layFits prog plainL []=true:=by kernel_rfl
theorem vT(os:Os):(oh os).layIfaces prog plainL (lWorld os)=true:=by kernel_rfl
theorem vS(os:Os):((Rows.learnsUptoRow.laid.filter fun x=>x.2.handleName?.isSome).all (handleAtB prog (lWorld os)))=true:=by kernel_rfl
theorem Aq(os:Os):laidMetH prog Rows.learnsUptoRow.laid (lWorld os):=by
 refine laidMetH_of_parts ?_ (vS os);show laidMet prog plainL (lWorld os)
 have a:(plainL.filter fun x=>(plainL.map (·.1)).contains x.1)=plainL:=List.filter_eq_self.2 fun x hx=>List.contains_iff_mem.2 (List.mem_map.2 ⟨x,hx,rfl⟩)
 have b:(plainL.filter fun x=> !(plainL.map (·.1)).contains x.1)=[]:=List.filter_eq_nil_iff.2 fun x hx=>by rw[List.contains_iff_mem.2 (List.mem_map.2 ⟨x,hx,rfl⟩)];simp
 exact laidMet_layVars (w0:=oh os) (plainL.map (·.1)) [] (by rw[a];rfl) (by rw[a];exact Ap os) (by rw[a];exact vT os) (by rw[b];exact LaidIn.none)
theorem wit_met(os:Os)(args:Array Value):laidMetH prog Rows.learnsUptoRow.laid ((lWorld os).forCall (fun _ _=>0) ⟨#[],args,[]⟩).memory:=
 laidMetH.of_heap (w:=lWorld os) (by simp[World.memory,World.forCall,Input.heap]) (Aq os)
end Go.Proofs.YtocligpfmfmihaaGreatDoor.wl

