import Derived.Test.YtocligpfmfmihaaGreatDoorWrt3G
set_option maxHeartbeats 2000000
set_option maxRecDepth 20000
namespace Go.Proofs.YtocligpfmfmihaaGreatDoor
open Go.Proofs.Tryz
section
open Go Go.RowKit Go.Maps Go.WideMaps Go.Sort Go.Shelf
attribute [local go_sem] Oper.semAt_some
theorem lJ(b:Nat)(w:World):Calls prog 170 #[.map (some b)] w fun e w'=>
  e=.returned (.func (.func 213) #[] #[.pointer (some ⟨w.heap.size,0,none⟩)])∧w.alloc (.cells #[.map (some b)] 71)=w':=by
 have a:∀(fn:Fn) (first cap:Array Value) (w:World),(Instr.makeFunc fn first cap).run prog w=.ok (.func fn first cap) w:=fun _ _ _ _=>rfl
 go_enter func170,ntmps170;go_wp2;go_ret;exact⟨rfl,rfl⟩
theorem rE{B:Nat}{w w1:World}{v:Value}{o:List UInt8}{x:Obj}{t:TypeId}{u:Value}(hr:Row B w v o)(y2:((w.alloc (.cells #[u] t)).alloc x).grownBy w1 v.ownBlock):w1.heap[w.heap.size]? =some (.cells #[u] t):=by
 have h:=(gE w (.cells #[u] t) x).1;rw[y2.block w.heap.size (ag h) (by intro e;have:=(hr.lt _ e.symm).2;omega)];exact h
theorem iy(w:World)(n:Nat)(hn:w.heap.size=n)(l:List Value)(t:TypeId):∀(j:Nat) (u:Value),l[j]? =some u→(w.alloc (.cells l.toArray t)).cell? ((⟨n,0,none⟩:Addr).add j)=some u:=by subst hn;exact dC w l t
theorem mL{B k:Nat}{X:World}{v:Value}{o:List UInt8}{c:Array Value}{t:TypeId}{fz:Nat×Nat}(hr:Row B X v o)(h:X.heap[k]? =some (.cells c t fz))(ht:t≠5):v.ownBlock≠some k:=by
 intro e;obtain⟨_,⟨rfl,_⟩ | ⟨g,b,d,rfl,_,a,_⟩⟩:=hr
 ·cases e
 ·injection e with e
  subst e;rw[h]at a;injection a with a
  injection a with _ f _
  exact ht f
structure Bd(B:Nat)(w X0:World)(n0 ob fb:Nat)(X:World)(vv rv:Value)(o1:List UInt8)(fl:Bool):Prop where
 cob:X.heap[ob]? =some (.cells #[vv] 124)
 cfb:X.heap[fb]? =some (.cells #[.bool fl] 4)
 row:Row B X rv o1
 wx:Wr B w X
 ko:KeepsOthers X0 X
 kp:KpM n0 ob fb X0 X
 lo:w.heap.size≤ob∧w.heap.size≤fb∧B≤w.heap.size∧ob≠fb
variable{B:Nat}{w X0 X X2:World}{n0 ob fb:Nat}{vv rv rv2:Value}{o1 o2:List UInt8}{fl:Bool}
theorem lN{e:Lib.OthersKept 5 none X X2}{k:Nat}{c:Array Value}{t:TypeId}{fz:Nat×Nat}(h:X.heap[k]? =some (.cells c t fz))(ht:t≠5):X2.heap[k]? =some (.cells c t fz):=
 e k _ h (by simp) (by intro f b a;injection a with _ d _;exact ht d)
theorem Bd.step(h:Bd B w X0 n0 ob fb X vv rv o1 fl)(hw:Wr B X X2)(hr:Row B X2 rv2 o2):Bd B w X0 n0 ob fb X2 vv rv2 o2 fl where
 cob:=lN (e:=hw.oth) h.cob (by decide)
 cfb:=lN (e:=hw.oth) h.cfb (by decide)
 row:=hr
 wx:=h.wx.trans hw
 ko:=⟨Nat.le_trans h.ko.size hw.below.size,fun k o a b=>hw.oth k o (h.ko.same k o a b) (by simp) (by rintro c fz rfl;cases b)⟩
 kp:=by
  refine⟨Nat.le_trans h.kp.1 hw.below.size, ?_, ?_⟩
  ·intro k c t fz a b g i
   have e:=h.kp.2.1 k c t fz a b g i;rw[lN (e:=hw.oth) (e.trans a) b,a]
  ·intro k d cl f a
   have e:=h.kp.2.2 k d cl f a;rw[hw.oth k _ (e.trans a) (by simp) (by intro c fz;simp),a]
 lo:=h.lo
theorem Bd.put(h:Bd B w X0 n0 ob fb X vv rv o1 fl)(k:Nat)(j:k=ob∨k=fb)(u:Value)(vv':Value)(fl':Bool)(h1:(X.setCell ⟨k,0,none⟩ u).heap[ob]? =some (.cells #[vv'] 124))(h2:(X.setCell ⟨k,0,none⟩ u).heap[fb]? =some (.cells #[.bool fl'] 4)):Bd B w X0 n0 ob fb (X.setCell ⟨k,0,none⟩ u) vv' rv o1 fl':=by
 have q:=h.lo
 have d:∃c t,X.heap[k]? =some (.cells c t)∧t≠5:=by
  rcases j with rfl | rfl
  ·exact⟨_,_,h.cob,by decide⟩
  ·exact⟨_,_,h.cfb,by decide⟩
 obtain⟨c,t,a,d⟩:=d;have g:(X.setCell ⟨k,0,none⟩ u).heap.size=X.heap.size:=by simp[World.setCell]
 refine⟨h1,h2,h.row.old (fun i hi=>af (by show i≠k;rintro rfl;exact mL h.row a d hi)),⟨?_, ?_⟩,⟨by rw[g];exact h.ko.size, ?_⟩,⟨by rw[g];exact h.kp.1, ?_, ?_⟩,h.lo⟩
 ·exact h.wx.below.setCell (p:=⟨k,0,none⟩) (by show B≤k;rcases j with rfl | rfl <;> omega) u
 ·intro i o b f l
  rw[af (by show i≠k;have:=ag b;rcases j with rfl | rfl <;> omega)];exact h.wx.oth i o b f l
 ·intro i o b f
  have:=h.ko.same i o b f;rw[af (by show i≠k;rintro rfl;rw[this]at a;injection a with a;subst a;cases f)];exact this
 ·intro i m v fz b f l s
  rw[af (by show i≠k;rcases j with rfl | rfl <;> assumption)];exact h.kp.2.1 i m v fz b f l s
 ·intro i n cl r b
  have e:=h.kp.2.2 i n cl r b;rw[af (by show i≠k;rintro rfl;rw[e,b]at a;cases a)];exact e
theorem Bd.put_ob(h:Bd B w X0 n0 ob fb X vv rv o1 fl):Bd B w X0 n0 ob fb (X.setCell ⟨ob,0,none⟩ rv) rv rv o1 fl:=
 h.put ob (Or.inl rfl) rv rv fl (d8 h.cob rv) (by rw[af (by show fb≠ob;exact Ne.symm h.lo.2.2.2)];exact h.cfb)
theorem Bd.put_fb(h:Bd B w X0 n0 ob fb X vv rv o1 fl)(fl':Bool):Bd B w X0 n0 ob fb (X.setCell ⟨fb,0,none⟩ (.bool fl')) vv rv o1 fl':=
 h.put fb (Or.inr rfl) (.bool fl') vv fl' (by rw[af (by show ob≠fb;exact h.lo.2.2.2)];exact h.cob) (d8 h.cfb _)
theorem Bd.app{x:Obj}{c:UInt8}(h:Bd B w X0 n0 ob fb X vv rv o1 fl)(y1:X2.ownsRow B 5 1 rv2 (o1.length+1) (Lib.byteCells o1 ++Lib.byteCells [c]))(y2:(X.alloc x).grownBy X2 rv.ownBlock):Bd B w X0 n0 ob fb X2 vv rv2 (o1 ++[c]) fl:=by
 have a:=h.lo;have:=h.wx.below.size;obtain⟨b,z2⟩:=cZ (Wr.refl B X) (by omega) h.row y1 y2;exact h.step z2 b
theorem Bd.bsz(h:Bd B w X0 n0 ob fb X vv rv o1 fl):B≤X.heap.size:=by
 have a:=h.lo;have:=h.wx.below.size;omega
theorem Repm.len{w:World}{F:Nat→Prop}{l:List (Bs×J)}{m:List (Bs×Value)}(h:Repm w F l m):m.length=l.length:=by
 have:=congrArg List.length (Repm.keys l m h);simpa using this
theorem Repm.get{w:World}{F:Nat→Prop}:∀(l:List (Bs×J)) (m:List (Bs×Value)) (k:Nat) (hk:k < m.length),Repm w F l m→∃p,l[k]? =some p∧p ∈ l∧m[k].1=p.1∧Rep w F p.2 m[k].2
 | [],m,k,hk,h=>by rw[Repm]at h;subst h;simp at hk
 | (a,y) :: l,m,k,hk,h=>by
  rw[Repm]at h;obtain⟨u,r,rfl,b,c⟩:=h
  cases k with
  |zero=>exact⟨(a,y),rfl,by simp,rfl,b⟩
  |succ k=>
   obtain⟨p,d,e,f,g⟩:=Repm.get l r k (by simpa using hk) c;exact⟨p,by simpa using d,by simp[e],f,g⟩
def cD(l:List (Bs×J))(k:Nat):Bs×J:=(l[k]?).getD ([],.null)
theorem zA(l:List (Bs×J))(n:Nat)(h:n=l.length):(List.finRange n).map (fun i=>aD (cD l i.val))=l.map aD:=by
 subst h;refine List.ext_getElem (by simp) ?_;intro i b a;simp only[List.getElem_map,List.getElem_finRange];congr 1
 unfold cD;have:i < l.length:=by simpa using a
 simp[this]
def Iv(B:Nat)(w:World)(l:List (Bs×J))(o:List UInt8)(ob fb n:Nat)(pre:List (Fin n))(X:World):Prop:=
 ∃vv,X.heap[ob]? =some (.cells #[vv] 124)∧Row B X vv (o ++123 :: aB (pre.map fun i=>aD (cD l i.val)))∧X.heap[fb]? =some (.cells #[.bool pre.isEmpty] 4)∧Wr B w X
theorem Iv.own{B:Nat}{w:World}{l:List (Bs×J)}{o:List UInt8}{ob fb n N:Nat}(hN:w.heap.size≤N)(hB:B≤w.heap.size):OwnFrom N (Iv B w l o ob fb n):=by
 rintro pre X Y row ⟨vv,p,q,r,b⟩ d j
 have f:∀(k:Nat) (c:Array Value) (t:TypeId) (fz:Nat×Nat),X.heap[k]? =some (.cells c t fz)→Y.heap[k]? =X.heap[k]? :=by
  intro k c t fz h;refine d.block k (ag h) ?_;intro e;obtain⟨_,z,a,m⟩:=j k e.symm;rw[h]at a;injection a with a
  subst a;cases m
 refine⟨vv,(f _ _ _ _ p).trans p,q.old ?_,(f _ _ _ _ r).trans r,⟨b.below.grown d (Nat.le_trans hB b.below.size) (fun k e=>by have:=(j k e).1;omega), ?_⟩⟩
 ·intro k e
  obtain⟨_,⟨rfl,_⟩ | ⟨g,s,u,rfl,_,v,_⟩⟩:=q
  ·cases e
  ·injection e with e
   subst e;exact f _ _ _ _ v
 ·intro i x a m y
  have:=b.oth i x a m y;rw[d.block i (ag this) (by intro e;have:=(j i e.symm).1;have:=ag a;omega)];exact this
theorem oX(W:World)(l:List (Bs×J))(hl:∀p ∈ l,jm W p.2)(hsl:Srt l)(hll:l.length≤1000000):CU W l:=by
 intro B w v o F b m M hW aO hr hB Z r hM an;obtain⟨i0,hi,ah,ai,ak⟩:=info_parts j0;obtain⟨sa,L,g,aH,rfl,a3⟩:=cG hr;clear a3
 have bi:o.length+2≤139000000000000:=by
  have:(bZ l+1)*(M+2)≥1*2:=Nat.mul_le_mul (by omega) (by omega);omega
 refine (callsIn_wide (n:=8)).1 ?_;refine callsIn_of_wp_marks func122 rfl trivial ?_ rfl;simp only[ntmps122,List.size_toArray,List.length_cons,List.length_nil,Nat.reduceAdd,Nat.reduceSub,Array.replicate_succ,Array.replicate_zero,List.push_toArray,List.append_toArray,List.nil_append,List.cons_append];have bh:Fence.wide.fn 170:=trivial
 gi_wp2_with (first
   | (gi_at_builtin;refine wpListIn_append_own _ rfl (.tmp 8) (.tmp 9) 124 rfl B 5 i0 (.int .u8 0) 1 1 underlying124 hi ah ai ak rfl (by decide) _ _ _ rfl (World.ownsRow.alloc (World.ownsRow.alloc hr _) _) ⟨w.heap.size+1,0,none⟩ 1 1 (Lib.byteCells [123]) rfl rfl (by exact iy (w.alloc _) _ (by simp) _ _) (bV _) (by unfold maxLen;omega) (by omega) (by simp;omega) ?_;intro v1 w1 y1 y2 _;obtain⟨g1,s,rfl⟩:=aK y1;obtain⟨ca,fa⟩:=aj (rE hr y2))
   | (gi_at_call 170;refine (callsIn_wide.2 (lJ _ _)).mono ?_;rintro e w' ⟨rfl,rfl⟩))
 have aR:=rE hr y2;have aC:((w.alloc (.cells #[.slice sa o.length L] 124)).alloc (.cells #[.int .u8 123] 5)).grownBy w1 (Value.slice sa o.length L).ownBlock:=y2;clear y2;have bb:w.heap.size+2≤w1.heap.size:=by have:=aC.size;simpa using this
 have ad:Wr B w w1:=((((Wr.refl B w).alloc hB _).alloc (by simp;omega) _)).grown (World.ownsRow.alloc (World.ownsRow.alloc hr _) _) aC (by simp;omega)
 have G:Row B w1 (.slice (some ⟨g1,0,none⟩) (o.length+1) s) (o ++[123]):=by
  unfold Row;rw[dW,List.length_append];exact y1
 have aw:=Repm.len r;have a4:Srt m:=iV (Repm.keys l m r) hsl;have A:=ae (An hM (An hl (An r (An an (An hW aO)))))
 have ax:w1.ownsMap prog 9 Rv b m.length (dm m):=by
  obtain⟨es,aq,q1,q2⟩:=Z;exact⟨es,aq,ad.oth b _ q1 (by simp) (by intro c fz;simp),q2⟩
 have aV:=Z.lt
 have bg:M+2≤139000000000000:=by
  have:(bZ l+1)*(M+2)≥1*(M+2):=Nat.mul_le_mul (by omega) (by omega);omega
 have aZ:∀p ∈ m,p.1.length≤139000000000000:=by
  intro p hp;obtain⟨k,I,rfl⟩:=List.getElem_of_mem hp;obtain⟨q,r1,P,r3,r4⟩:=Repm.get l m k I r;rw[r3];have h1:=hM q P;have h2:=uh q.1;simp only[aD,cU,List.length_append,List.length_cons]at h1;omega
 have aY:∀p ∈ m,∃t u,p.2=.iface t u:=by
  intro p hp;obtain⟨k,I,rfl⟩:=List.getElem_of_mem hp;obtain⟨q,r1,P,r3,r4⟩:=Repm.get l m k I r;exact Rep.iface r4
 clear hM hl r an hW aO Z y1 aC ca fa hr hsl;generalize hX0:(((w1.setCell ⟨w.heap.size,0,none⟩ (.slice (some ⟨g1,0,none⟩) (o.length+1) s)).alloc (.cells #[.bool true] 4)).alloc (.cells #[.map (some b)] 71))=X0;have a8:X0.heap.size=w1.heap.size+2:=by rw[←hX0];simp[World.setCell]
 generalize hS:w1.setCell ⟨w.heap.size,0,none⟩ (.slice (some ⟨g1,0,none⟩) (o.length+1) s)=S at hX0;have ar:S.heap.size=w1.heap.size:=by rw[←hS];simp[World.setCell]
 have aN:S.heap[w.heap.size]? =some (.cells #[.slice (some ⟨g1,0,none⟩) (o.length+1) s] 124):=by rw[←hS];exact d8 aR _
 have al:∀k,k≠w.heap.size→S.heap[k]? =w1.heap[k]? :=by intro k I;rw[←hS];exact af (by exact I)
 have au:=gE S (.cells #[.bool true] 4) (.cells #[.map (some b)] 71)
 have Y:∀k,k < w1.heap.size→X0.heap[k]? =S.heap[k]? :=by
  intro k I;rw[←hX0,Below.heap_alloc _ _ _ (by simp;omega),Below.heap_alloc _ _ _ (by omega)]
 have aP:X0.heap[w1.heap.size]? =some (.cells #[.bool true] 4):=by rw[←hX0,←ar];exact au.1
 have aX:X0.heap[w1.heap.size+1]? =some (.cells #[.map (some b)] 71):=by rw[←hX0,←ar];exact au.2
 have aU:Iv B w l o w.heap.size w1.heap.size m.length [] X0:=by
  refine⟨_,(Y _ (by omega)).trans aN,G.old ?_,aP, ?_⟩
  ·intro k I
   have h1:=(G.lt k I).2;have h2:k≠w.heap.size:=by rintro rfl;exact mL G aR (by decide) I
   rw[Y k h1,al k h2]
  ·refine⟨?_, ?_⟩
   ·rw[←hX0,←hS]
    exact ((ad.below.setCell (p:=⟨w.heap.size,0,none⟩) (by exact hB) _).alloc (by simp[World.setCell];omega) _).alloc (by simp[World.setCell];omega) _
   ·intro i x r1 P r3
    have:=ag r1;rw[Y i (by omega),al i (by omega)];exact ad.oth i x r1 P r3
 have az:X0.ownsMap prog 9 Rv b m.length (dm m):=ay ax (by rw[Y b (by omega),al b (by omega)]);clear au Y aP aN al hS ar;clear hX0
 refine wpIn_rangeFunc_ownF (α:=Fin m.length) rfl (by decide) (gf:=213) (lb:= #[.pointer (some ⟨w1.heap.size+1,0,none⟩)]) rfl trivial (enters_of func213 (by kernel_rfl) rfl)
  (encs:=gV m) (Kp:=KpM w.heap.size w.heap.size w1.heap.size) (S:=fun xs=>xs=List.finRange m.length) (Sp:=fun _=>True) (N:=m.length) (w0:=X0)
  (fun lr J Jx W1 hbl hJ _ hY h0=>zu 7 (by decide) lr (w1.heap.size+1) b w.heap.size w.heap.size w1.heap.size m a4 (by omega) aZ aY J Jx W1 hJ hY ((hbl.block _ (by omega)).trans aX) (by omega) (by have:=hbl.size;omega) (ay az (hbl.block _ (by omega))) aV h0)
  KpM.t (KpM.b (by omega)) (Below.refl _ _) (fun _=>rfl)
  (Iv B w l o w.heap.size w1.heap.size m.length) (fun _ _ _=>False) (Iv.own (by omega) hB) (fun _ _ _ _ _ hs _ _=>hs) aU
  (fun x=>{ tmps:= #[.slice sa o.length L,.map (some b),.pointer (some ⟨w.heap.size,0,none⟩),undef,.slice none 0 0,.pointer (some ⟨w1.heap.size,0,none⟩),.string ⟨m[x].1.toArray⟩,m[x].2,
        .slice sa o.length L,.slice (some ⟨w.heap.size+1,0,none⟩) 1 1,.slice (some ⟨g1,0,none⟩) (o.length+1) s,.map (some b),
        .func (.func 213) #[] #[.pointer (some ⟨w1.heap.size+1,0,none⟩)],.string ⟨m[x].1.toArray⟩,m[x].2,
        undef,undef,undef,undef,undef,undef,undef,undef,undef,undef,undef,undef,undef,undef,undef,undef,undef],defers:=[] }) ?assign ?body ?done ?stop
 case assign=>
  intro l x W K hK;simp only[gV];gi_wp2
  exact hK
 case body=>
  rintro lr pre x X ⟨vv,q1,q2,q3,q4⟩ ba;have a1:∃p,l[x.val]? =some p∧p ∈ l∧m[x].1=p.1∧Rep w F p.2 m[x].2:=Repm.get l m x.val x.2 A.o.2.2.1;obtain⟨p,a2,O,aS,aA⟩:=a1;generalize m[x].2=xv at aA ⊢;generalize m[x].1=xk at aS ⊢;subst aS;have bd:Bd B w X w.heap.size w.heap.size w1.heap.size X vv vv _ pre.isEmpty:=⟨q1,q3,q2,q4,KeepsOthers.refl _,⟨Nat.le_refl _,fun _ _ _ _ _ _ _ _=>rfl,fun _ _ _ _ _=>rfl⟩,by omega⟩
  have am:(o ++123 :: aB (pre.map fun i=>aD (cD l i.val))).length+1+(aD p).length+(cnt p.2+1)*(M+2)≤139000000000000:=by
   have h1:=(eq l).2 p O
   have h2:=ke (pre.map fun i=>aD (cD l i.val)) M (by
     intro y hy;obtain⟨i,_,rfl⟩:=List.mem_map.1 hy;have:i.val < l.length:=by omega
     refine A.o.1 _ ?_;unfold cD;simp[this])
   have h3:=A.o.1 p O;have h4:=A.o.2.2.2.1;have h5:(l.length+cnt p.2+1)*(M+2)≤(bZ l+1)*(M+2):=Nat.mul_le_mul (by omega) (Nat.le_refl _)
   have h6:(l.length+cnt p.2+1)*(M+2)=l.length*(M+1)+l.length+(cnt p.2+1)*(M+2):=by
    rw[show l.length+cnt p.2+1=l.length+(cnt p.2+1) by omega,Nat.add_mul,show M+2=M+1+1 by omega,Nat.mul_add l.length (M+1) 1];omega
   rw[List.length_map]at h2;have h7:(pre.length+1)*(M+1)≤l.length*(M+1):=Nat.mul_le_mul (by omega) (Nat.le_refl _);rw[Nat.add_mul]at h7;simp only[List.length_append,List.length_cons];omega
  have j:(o ++123 :: aB (pre.map fun i=>aD (cD l i.val))).length+1+(aD p).length≤138999999999998:=by
   have:(cnt p.2+1)*(M+2)≥1*2:=Nat.mul_le_mul (by omega) (by omega);omega
  have hj:aB ((pre ++[x]).map fun i=>aD (cD l i.val))=if pre.isEmpty then aD p else aB (pre.map fun i=>aD (cD l i.val)) ++44 :: aD p:=by
   have e:cD l x.val=p:=by unfold cD;rw[a2];rfl
   rw[List.map_append,List.map_cons,List.map_nil,e,j6];cases pre <;> simp
  have aQ:pre.isEmpty=true→aB (pre.map fun i=>aD (cD l i.val))=[]:=by
   intro h;rw[List.isEmpty_iff.1 h];rfl
  clear q1 q2 q3 q4;generalize hO1:aB (pre.map fun i=>aD (cD l i.val))=O1 at *;generalize hO:o ++123 :: O1=o1 at *;have HO:=ae (An hO aQ);have HB:=ae am;clear hO hO1 aQ am;obtain⟨a5,aE,g2,aI,rfl,aa⟩:=cG bd.row;clear aa;obtain⟨cb,fb⟩:=aj bd.cfb;obtain⟨co,fo⟩:=aj bd.cob;have bj:w1.heap.size≠w.heap.size:=by omega
  have a9:w.heap.size≠w1.heap.size:=by omega
  cases hpe:pre.isEmpty
  ·rw[hpe]at bd cb hj
   have HJ:=ae hj;have bc:=ae hpe;clear hj;gi_wp2_with (gi_at_builtin;refine wpListIn_append_own _ rfl (.tmp 17) (.tmp 18) 124 rfl B 5 i0 (.int .u8 0) 1 1 underlying124 hi ah ai ak rfl (by decide) _ _ _ rfl (World.ownsRow.alloc bd.row _) ⟨X.heap.size,0,none⟩ 1 1 (Lib.byteCells [44]) rfl rfl (by exact iy _ _ rfl _ _) (bV _) (by unfold maxLen;omega) (by omega) (by have:=bd.bsz;simp;omega) ?_;intro v4 X4 H d _;obtain⟨g4,V,rfl⟩:=aK H;have ap:=bd.app H d;clear H d;obtain⟨c0,f0⟩:=aj ap.cob;obtain⟨be,bf⟩:=aj ap.cfb)
   have C:=(ap.put_ob).put_fb false;refine⟨trivial, ?_⟩;gi_at_call 120
   refine (CallsIn.inRound lr (callsIn_wide.2 (gh B _ _ _ _ C.row C.bsz (by simp only[aD,List.length_append,List.length_cons]at j;simp;omega)))).mono ?_;rintro e X2 ⟨v2,rfl,P,u2⟩;have R:=C.step u2 P;have E:=R.put_ob;obtain⟨a6,aF,g3,aJ,rfl,ab⟩:=cG P;clear ab;obtain⟨c2,f2⟩:=aj R.cob
   have a0:((o1 ++[44]) ++cU (List.toArray p.1).toList).length+2≤138999999999999:=by
    simp only[aD,List.length_append,List.length_cons]at j ⊢;simp;omega
   generalize hO2:(o1 ++[44]) ++cU (List.toArray p.1).toList=o2 at *;have Q:=ae hO2;clear hO2;gi_wp2_with (gi_at_builtin;refine wpListIn_append_own _ rfl (.tmp 23) (.tmp 24) 124 rfl B 5 i0 (.int .u8 0) 1 1 underlying124 hi ah ai ak rfl (by decide) _ _ _ rfl (World.ownsRow.alloc E.row _) ⟨X2.heap.size,0,none⟩ 1 1 (Lib.byteCells [58]) rfl rfl (by exact iy _ _ (by simp[World.setCell]) _ _) (bV _) (by unfold maxLen;omega) (by omega) (by have:=E.bsz;simp[World.setCell]at this ⊢;omega) ?_;intro v4 X4 H d _;obtain⟨g4,V,rfl⟩:=aK H;have T:=E.app H d;clear H d;obtain⟨c4,f4⟩:=aj T.cob)
   have f:=T.put_ob;refine⟨trivial, ?_⟩;gi_at_call 68
   have av:(o2 ++[58]).length+(cnt p.2+1)*(M+2)≤139000000000000:=by
    have h1:=HB.o;have h2:=congrArg List.length Q.o;simp only[aD,List.length_append,List.length_cons,List.length_nil]at h1 h2 ⊢;omega
   refine (CallsIn.inRound lr (callsIn_wide.2 (A.o.2.1 p O B _ _ _ F _ M (A.o.2.2.2.2.1.trans (f.wx.below.mono A.o.2.2.2.2.2)) A.o.2.2.2.2.2 f.row f.bsz (Rep.oth f.wx.oth p.2 aA) (by have:=A.o.1 p O;simp only[aD,List.length_append,List.length_cons]at this;omega) (by exact av)))).mono ?_;rintro e X6 ⟨v6,rfl,r6,u6⟩;have U:=f.step u6 r6;have a:=U.put_ob;obtain⟨a7,aG,g7,aL,rfl,ac⟩:=cG r6;clear ac;obtain⟨c6,f6⟩:=aj U.cob;generalize hO3:o2 ++[58] ++cJ p.2=o3 at *;have ao:=ae hO3;clear hO3;gi_wp2_with fail
   refine⟨a.ko,a.kp,_,a.cob, ?_,(show (pre ++[x]).isEmpty=false by cases pre <;> rfl) ▸ a.cfb,a.wx⟩
   have e:o ++123 :: aB ((pre ++[x]).map fun i=>aD (cD l i.val))=o3:=by
    rw[HJ.o,←ao.o,←Q.o,←HO.o.1];simp[aD]
   rw[e];exact a.row
  ·rw[hpe]at bd cb hj
   have C:=bd.put_fb false;have HJ:=ae hj;clear hj;gi_wp2_with fail
   refine⟨trivial, ?_⟩;gi_at_call 120
   refine (CallsIn.inRound lr (callsIn_wide.2 (gh B _ _ _ _ C.row C.bsz (by simp only[aD,List.length_append,List.length_cons]at j;simp;omega)))).mono ?_;rintro e X2 ⟨v2,rfl,P,u2⟩;have R:=C.step u2 P;have E:=R.put_ob;obtain⟨a6,aF,g3,aJ,rfl,ab⟩:=cG P;clear ab;obtain⟨c2,f2⟩:=aj R.cob
   have a0:(o1 ++cU (List.toArray p.1).toList).length+2≤138999999999999:=by
    simp only[aD,List.length_append,List.length_cons]at j ⊢;simp;omega
   generalize hO2:o1 ++cU (List.toArray p.1).toList=o2 at *;have Q:=ae hO2;clear hO2;gi_wp2_with (gi_at_builtin;refine wpListIn_append_own _ rfl (.tmp 23) (.tmp 24) 124 rfl B 5 i0 (.int .u8 0) 1 1 underlying124 hi ah ai ak rfl (by decide) _ _ _ rfl (World.ownsRow.alloc E.row _) ⟨X2.heap.size,0,none⟩ 1 1 (Lib.byteCells [58]) rfl rfl (by exact iy _ _ (by simp[World.setCell]) _ _) (bV _) (by unfold maxLen;omega) (by omega) (by have:=E.bsz;simp[World.setCell]at this ⊢;omega) ?_;intro v4 X4 H d _;obtain⟨g4,V,rfl⟩:=aK H;have T:=E.app H d;clear H d;obtain⟨c4,f4⟩:=aj T.cob)
   have f:=T.put_ob;refine⟨trivial, ?_⟩;gi_at_call 68
   have av:(o2 ++[58]).length+(cnt p.2+1)*(M+2)≤139000000000000:=by
    have h1:=HB.o;have h2:=congrArg List.length Q.o;simp only[aD,List.length_append,List.length_cons,List.length_nil]at h1 h2 ⊢;omega
   refine (CallsIn.inRound lr (callsIn_wide.2 (A.o.2.1 p O B _ _ _ F _ M (A.o.2.2.2.2.1.trans (f.wx.below.mono A.o.2.2.2.2.2)) A.o.2.2.2.2.2 f.row f.bsz (Rep.oth f.wx.oth p.2 aA) (by have:=A.o.1 p O;simp only[aD,List.length_append,List.length_cons]at this;omega) (by exact av)))).mono ?_;rintro e X6 ⟨v6,rfl,r6,u6⟩;have U:=f.step u6 r6;have a:=U.put_ob;obtain⟨a7,aG,g7,aL,rfl,ac⟩:=cG r6;clear ac;obtain⟨c6,f6⟩:=aj U.cob;generalize hO3:o2 ++[58] ++cJ p.2=o3 at *;have ao:=ae hO3;clear hO3;gi_wp2_with fail
   refine⟨a.ko,a.kp,_,a.cob, ?_,(show (pre ++[x]).isEmpty=false by cases pre <;> rfl) ▸ a.cfb,a.wx⟩
   have e:o ++123 :: aB ((pre ++[x]).map fun i=>aD (cD l i.val))=o3:=by
    rw[HJ.o,←ao.o,←Q.o,←HO.o.1,HO.o.2 hpe];simp[aD]
   rw[e];exact a.row
 case done=>
  rintro D ys X hD rfl ⟨vv,q1,q2,q3,q4⟩ hK;rw[zA l m.length aw]at q2
  have j:(o ++123 :: aB (l.map aD)).length+1≤139000000000000:=by
   have h1:=(eq l).1
   have h2:=ke (l.map aD) M (by
     intro y hy;obtain⟨i,hi,rfl⟩:=List.mem_map.1 hy;exact A.o.1 _ hi)
   have h4:=A.o.2.2.2.1;have h5:(l.length+1)*(M+2)≤(bZ l+1)*(M+2):=Nat.mul_le_mul (by omega) (Nat.le_refl _)
   have h6:(l.length+1)*(M+2)=l.length*(M+1)+l.length+M+2:=by
    rw[Nat.add_mul,show M+2=M+1+1 by omega,Nat.mul_add l.length (M+1) 1];omega
   rw[List.length_map]at h2;simp only[List.length_append,List.length_cons];have:l.length=0∨1≤l.length:=by omega
   rcases this with h | h
   ·have:l=[]:=List.length_eq_zero_iff.1 h
    subst this;simp[aB];simp at h6;omega
   ·omega
  generalize hO:o ++123 :: aB (l.map aD)=o1 at *;have HO:=ae hO;clear hO;obtain⟨a5,aE,g2,aI,rfl,aa⟩:=cG q2;clear aa;obtain⟨co,fo⟩:=aj q1;have aW:B≤X.heap.size:=Nat.le_trans hB q4.below.size;gi_wp2_with (gi_at_builtin;refine wpListIn_append_own _ rfl (.tmp 29) (.tmp 30) 124 rfl B 5 i0 (.int .u8 0) 1 1 underlying124 hi ah ai ak rfl (by decide) _ _ _ rfl (World.ownsRow.alloc q2 _) ⟨X.heap.size,0,none⟩ 1 1 (Lib.byteCells [125]) rfl rfl (by exact iy _ _ rfl _ _) (bV _) (by unfold maxLen;omega) (by omega) (by simp;omega) ?_;intro v4 X4 H d _;obtain⟨g4,V,rfl⟩:=aK H)
  obtain⟨z1,z2⟩:=cZ q4 aW q2 H d;have aT:D < X.heap.size:=ag hK
  have aM:X4.heap[D]? =some (.deferred (some [])):=by
   rw[d.block D (by simp;omega) ?_,Below.heap_alloc _ _ _ aT]
   ·exact hK
   ·intro e
    obtain⟨_,⟨z,_⟩ | ⟨g,L,aH,z,_,hh,_⟩⟩:=q2
    ·injection z with z
     subst z;cases e
    ·injection z with z
     subst z;injection e with e
     subst e;rw[hK]at hh;cases hh
  clear H d;refine⟨by simp,.inl ⟨_,_,rfl,run_takeDeferred aM, ?_⟩⟩;refine⟨_,results_tmp rfl _ _ _,_,rfl, ?_, ?_⟩
  ·have e:o ++cJ (.obj l)=o1 ++[125]:=by
    rw[c7,←HO.o];simp
   rw[e];refine z1.old ?_;intro k I;have h1:=(z1.lt k I).2;rw[World.putObj_heap_other];rintro rfl;obtain⟨_,⟨z,_⟩ | ⟨g,L,aH,z,_,hh,_⟩⟩:=z1
   ·cases z
   ·injection z with z
    injection z with z
    injection I with I
    subst I;injection z with z
    subst z;rw[aM]at hh;cases hh
  ·have hg:=grownBy_putObj' X4 D (.deferred none)
   refine⟨z2.below.grown hg (Nat.le_trans hB z2.below.size) (fun k e=>by cases e;omega), ?_⟩;intro i x r1 P r3;have:=ag r1;rw[World.putObj_heap_other (by omega)];exact z2.oth i x r1 P r3
 case stop=>
  rintro D c pre W _ _ h _;exact h.elim
end
end Go.Proofs.YtocligpfmfmihaaGreatDoor
