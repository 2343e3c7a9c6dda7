import Derived.Test.YtocligpfmfmihaaGreatDoorVr3G
set_option maxHeartbeats 4000000
set_option maxRecDepth 20000
namespace Go.Proofs.YtocligpfmfmihaaGreatDoor
open Go.Proofs.Tryz
section
open Go Go.RowKit Go.Maps Go.WideMaps
attribute [local go_sem] Oper.semAt_some
def SoR(W w:World)(o:Option (List Bs))(e:Ending)(w':World):Prop:=Kp (fun _=>False) w w'∧match o with
 |some ss=>∃v,e=.returned (.tuple #[v,.nilIface])∧w'.ownsRow w.heap.size 9 1 v ss.length (ss.map fun s=>.string ⟨s.toArray⟩)
 |none=>∃ev,e=.returned (.tuple #[.slice none 0 0,ev])∧Ech W w' ev
theorem CH{w:World}{g:Nat}{x y q:Value}{T:TypeId}(h:w.heap[g]? =some (.cells #[x,y] T)):(w.setCell ⟨g,1,none⟩ q).heap[g]? =some (.cells #[x,q] T):=by simp[World.setCell,Array.getElem?_modify,h]
theorem EM(w:World):(zeroValue 9).run prog w=.ok (.string ⟨#[]⟩) w:=by kernel_rfl
theorem Eg{w:World}{g:Nat}{a b:Value}(h:w.heap[g]? =some (.cells #[a,b] 9))(ty:TypeId):(Builtin.clear_ #[36] ty #[.slice (some ⟨g,1,none⟩) 1 1]).run prog w=.ok (.tuple #[]) (w.setCell ⟨g,1,none⟩ (.string ⟨#[]⟩)):=by
 obtain⟨⟨i,c⟩,k,f1⟩:=aH h
 have d:∀j,j < 1→(w.cell? ⟨g,1+j,none⟩).isSome=true:=by
  intro j f;have:j=0:=by omega
  subst this;rw[show 1+0=1 from rfl,c];rfl
 have e:∀j,j < 1→w.frozen? ⟨g,1+j,none⟩=false:=by
  intro j f;have:j=0:=by omega
  subst this;exact f1
 exact Lib.run_clear_slice w 36 9 ty (.string ⟨#[]⟩) underlying36 EM rfl rfl g 1 1 1 (by omega) d e
theorem uY(w:World)(g:Nat)(a b:Bs)(h:w.heap[g]? =some (.cells #[.string ⟨a.toArray⟩,.string ⟨b.toArray⟩] 9)):
  Calls prog 201 #[.slice (some ⟨g,0,none⟩) 2 2] w fun e w'=>(a≠b∧e=.returned (.slice (some ⟨g,0,none⟩) 2 2)∧Kp (fun _=>False) w w')∨(a=b∧e=.returned (.slice (some ⟨g,0,none⟩) 1 2)∧Kp (fun k=>k=g) w w'∧w'.heap[g]? =some (.cells #[.string ⟨a.toArray⟩,.string ⟨#[]⟩] 9)):=by
 obtain⟨⟨v,x⟩,y,f1⟩:=aH h;go_enter func201,ntmps201;go_wp2_with fail
 go_loopg [3] 1 (fun gg q wx=>Kp (fun _=>False) w wx∧((gg=1∧q=.int .i64 1)∨(gg=0∧q=.int .i64 2∧a≠b)))
 case atStart=>exact⟨Kp.refl _ _,Or.inl ⟨rfl,rfl⟩⟩
 case round=>
  obtain⟨m,A⟩:=hrel;have s:=m.heap h;clear v x y f1;obtain⟨⟨v,x⟩,y,f1⟩:=aH s;have l:=ae (An m s);clear m s;rcases A with⟨i,rfl⟩ | ⟨i,rfl,j⟩
  ·by_cases f:a=b
   ·have r:(b == a)=true:=by simpa using f.symm
    have d:=ae (An f i);clear f i;go_wp2;go_quiet (fail)
    go_wp2_with fail
    go_loopg [3,5] 0 (fun gg p q wx=>wx=wr.drewN nq∧gg=0∧p=.int .i64 1∧q=.int .i64 1)
    case atStart=>exact⟨rfl,rfl,rfl,rfl⟩
    case round=>
     obtain⟨rfl,_,rfl,rfl⟩:=hrel;have u:Kp (fun _=>False) w (wr.drewN nq):=l.o.1.drewN nq;have n:=((Kp.refl (fun _=>False) wr).drewN nq).heap l.o.2;have z:=Eg n 0;have c:((wr.drewN nq).setCell ⟨g,1,none⟩ (.string ⟨#[]⟩)).heap[g]? =some (.cells #[.string ⟨a.toArray⟩,.string ⟨#[]⟩] 9):=CH n;have t:=ae (An u c);clear u n c;go_wp2;go_ret;exact Or.inr ⟨d.o.1,rfl,Kp.setCell (S:=fun k=>k=g) (p:=⟨g,1,none⟩) (t.o.1.mono (fun _ _ h=>h.elim)) (fun _=>rfl) _,t.o.2⟩
   ·have r:(b == a)=false:=by simpa using Ne.symm f
    have d:=ae (An f i);clear f i;go_wp2;go_quiet (fail)
    go_wp2;go_roundg 0
    all_goals first
     | (rw[d.o.2];omega)
     |exact⟨l.o.1.drewN _,Or.inr ⟨rfl,rfl,d.o.1⟩⟩
  ·have d:=ae j
   clear j i;go_wp2;go_ret;exact Or.inl ⟨d.o,rfl,l.o.1⟩
theorem rL{w:World}{B g n:Nat}{x y:Value}{ss:List Value}(h:w.heap[g]? =some (.cells #[x,y] 9))(hB:B≤g)(hn:n≤2)(hs:ss=[x,y].take n):w.ownsRow B 9 1 (.slice (some ⟨g,0,none⟩) n 2) n ss:=by
 subst hs;refine⟨by rw[List.length_take];simp;omega,Or.inr ⟨g,2, #[x,y],rfl,hB,h,hn,by unfold maxLen;omega,rfl,by simp⟩⟩
theorem tE(W:World)(hN:NG2 W)(w:World)(hW:Below W.heap.size W w)(l:List (Bs×J))(b:Nat)(ho:Oz w l b):
  Calls prog 156 #[.map (some b)] w fun e w'=>SoR W w (eE l) e w':=by
 have p:=ae (jw W hN w hW l b lw (by decide) ho);have u:=ae ho;clear ho;go_enter func156,ntmps156;go_wp2_with fail
 refine p.o.mono ?_;rintro e w1 ⟨x,m⟩;have a:=ae x;clear x p
 cases hno:bs (ai lw l) with
 |none=>
  rw[hno]at m;obtain⟨z,rfl,k⟩:=m;obtain⟨B,C,rfl⟩:=k.iface;have g:Hid (eE l=none):=by show _=_;unfold eE;rw[hno];rfl
  have n:=ae k;clear k hno;go_wp2;go_ret2
  rw[g.o];exact⟨a.o,_,rfl,n.o⟩
 |some o=>
  rw[hno]at m;replace m:e=.returned (.tuple #[.string ⟨o.toArray⟩,.nilIface]):=m;subst m;obtain⟨v,c⟩:=AD w1 l b lA (by decide) (u.o.up a.o)
  cases hls:ai lA l with
  |none=>
   rw[hls]at c;replace c:(Instr.lookup 71 (.map (some b)) (.string ⟨#[115,101,110,100,101,114]⟩) true).run prog w1=.ok (.tuple #[v,.bool false]) w1:=c;have g:Hid (eE l=some [o]):=by show _=_;unfold eE;rw[hno,hls];rfl
   clear hno hls;go_wp2;go_ret2
   rw[g.o];have:=a.o.size;refine⟨a.o.alloc _,_,rfl, ?_⟩;exact World.ownsRow_lit (base:=w.heap.size) (e:=9) (size:=1) w1 #[.string ⟨o.toArray⟩] 1 (by omega) (by unfold maxLen;omega) rfl
  |some j=>
   rw[hls]at c;replace c:(Instr.lookup 71 (.map (some b)) (.string ⟨#[115,101,110,100,101,114]⟩) true).run prog w1=.ok (.tuple #[v,.bool true]) w1:=c;have r:=ae (jw W hN w1 (am hW a.o) l b lA (by decide) (u.o.up a.o));go_wp2_with fail
   refine r.o.mono ?_;rintro e w2 ⟨y,i⟩;have f:=ae (a.o.trans y);clear y r c;rw[hls]at i
   cases hns:bs (some j) with
   |none=>
    rw[hns]at i;obtain⟨z,rfl,k⟩:=i;obtain⟨B,C,rfl⟩:=k.iface;have g:Hid (eE l=none):=by show _=_;unfold eE;rw[hno,hls];simp only[Option.bind_some];rw[hns];rfl
    have n:=ae k;clear k hno hls hns;go_wp2;go_ret2
    rw[g.o];exact⟨f.o,_,rfl,n.o⟩
   |some s=>
    rw[hns]at i;replace i:e=.returned (.tuple #[.string ⟨s.toArray⟩,.nilIface]):=i;subst i;have g:Hid (eE l=some (if s=o then [o] else [o,s])):=by show _=_;unfold eE;rw[hno,hls];simp only[Option.bind_some];rw[hns];rfl
    have t:=heap_alloc_new w2 (.cells #[.string ⟨o.toArray⟩,.string ⟨s.toArray⟩] 9);have h:=ae (uY _ w2.heap.size o s t);have A:=f.o.size;clear hno hls hns;go_wp2_with fail
    refine h.o.mono ?_;rintro e w3 (⟨hne,rfl,K3⟩ | ⟨rfl,rfl,K3,h3⟩)
    ·have d:=ae (An ((f.o.alloc _).trans K3) (K3.heap t))
     have n:=ae hne;clear K3 hne t h;go_wp2;go_ret2
     rw[g.o,if_neg (Ne.symm n.o)];exact⟨d.o.1,_,rfl,rL d.o.2 (by omega) (by omega) rfl⟩
    ·have d:=ae (An ((f.o.alloc _).and K3 (fun q hq e=>by omega)) h3)
     clear K3 h3 t h;go_wp2;go_ret2
     rw[g.o,if_pos trivial];exact⟨d.o.1,_,rfl,rL d.o.2 (by omega) (by omega) rfl⟩
theorem Dl:(prog.info? 111).map (fun i=>(i.zero,i.size,i.bytes))=some (some (.agg #[.string ⟨#[]⟩,.int .i64 0,.string ⟨#[]⟩,.slice none 0 0]),4,64):=by kernel_rfl
def clC(p:Clm×Value):List Value:=[.string ⟨p.1.server.toArray⟩,.int .i64 p.1.ts,.string ⟨p.1.msg.toArray⟩,p.2]
def ClR(w:World)(lo:Nat)(v:Value)(ps:List (Clm×Value)):Prop:=w.ownsRow lo 111 4 v ps.length (ps.flatMap clC)∧∀p ∈ ps,w.ownsRow lo 193 2 p.2 p.1.sigs.length (p.1.sigs.flatMap sgC)
def CoV(W w:World)(o:Option (List Clm))(e:Ending)(w':World):Prop:=Kp (fun _=>False) w w'∧match o with
 |some cs=>∃v ps,e=.returned (.tuple #[v,.nilIface])∧ps.map (·.1)=cs∧ClR w' w.heap.size v ps
 |none=>∃ev,e=.returned (.tuple #[.slice none 0 0,ev])∧Ech W w' ev
theorem qa{o:Option J}{s:Bs}(h:bs o=some s):s.length≤20:=by
 unfold bs at h;simp only[Option.bind_eq_some_iff]at h;obtain⟨t,_,h⟩:=h;split at h
 ·rename_i hn
  injection h with h
  subst h;unfold cd at hn;simp at hn;exact hn.2
 ·cases h
theorem uR{l:List (Bs×J)}{ss:List Bs}(h:eE l=some ss):ss.length≤2∧∀s ∈ ss,s.length≤1000:=by
 unfold eE at h;simp only[Option.bind_eq_some_iff]at h;obtain⟨o,b,h⟩:=h;have d:=qa b;split at h
 ·injection h with h
  subst h;refine⟨by simp, ?_⟩;intro s a;simp at a;subst a;omega
 ·simp only[Option.map_eq_some_iff]at h
  obtain⟨q,c,rfl⟩:=h;have e:=qa c;split
  ·refine⟨by simp, ?_⟩
   intro s a;simp at a;subst a;omega
  ·refine⟨by simp, ?_⟩
   intro s a;simp at a;rcases a with rfl | rfl <;> omega
theorem uX(W:World)(hN:NG2 W)(w:World)(hW:Below W.heap.size W w)(l:List (Bs×J))(b:Nat)(ho:Oz w l b)(hwf:WF 6 (.obj l))(hcl:(cJ (.obj l)).length≤600):
  Calls prog 101 #[.map (some b)] w fun e w'=>CoV W w (dI l) e w':=by
 obtain⟨f1,f2,f3,f4⟩:=iY hwf hcl;have M:=ae (tE W hN w hW l b ho);have K:=ae (An ho (An hwf hcl));clear ho hwf hcl;go_enter func101,ntmps101;go_wp2_with fail
 refine M.o.mono ?_;rintro e w1 ⟨K1,E⟩;have x:=ae K1;clear K1 M
 cases hno:eE l with
 |none=>
  rw[hno]at E;obtain⟨ev,rfl,B⟩:=E;obtain⟨tt,uu,rfl⟩:=B.iface;have G:Hid (dI l=none):=by show _=_;unfold dI;rw[hno];rfl
  have Z:=ae B;clear B hno;go_wp2;go_ret2
  rw[G.o];exact⟨x.o,_,rfl,Z.o⟩
 |some ss=>
  rw[hno]at E;obtain⟨sv,rfl,rs⟩:=E;obtain⟨sa,sc,rfl,ar,R⟩:=aY rs;have I:=ae (gZ W hN w1 (am hW x.o) l b kTs (by decide) (K.o.1.up x.o));have HR:=ae (An rs R);clear rs R;go_wp2_with fail
  refine I.o.mono ?_;rintro e w2 ⟨K2,F⟩;have d:=ae (An K2 (x.o.trans K2));clear K2 I
  cases hmo:cC (ai kTs l) with
  |none=>
   rw[hmo]at F;obtain⟨ev,rfl,B⟩:=F;obtain⟨tt,uu,rfl⟩:=B.iface;have G:Hid (dI l=none):=by show _=_;unfold dI;rw[hno,hmo];rfl
   have Z:=ae B;clear B hno hmo;go_wp2;go_ret2
   rw[G.o];exact⟨d.o.2,_,rfl,Z.o⟩
  |some t=>
   rw[hmo]at F;replace F:e=.returned (.tuple #[.int .i64 t,.nilIface]):=F;subst F;have G:Hid (dI l=some (ss.map fun s=>⟨s,t,aA l,aG l s⟩)):=by show _=_;unfold dI;rw[hno,hmo];rfl
   have C:=uR hno;have H:=ae (jr W hN.ng w2 (am hW d.o.2) _ l b (K.o.1.up d.o.2) (fun _ h=>h) f1 f2 f3);have ab:=ae C.2;have aq:=C.1;clear hno hmo C f1 f2 f3;go_wp2_with fail
   refine H.o.mono ?_;rintro e w3 ⟨rfl,K3⟩;have A:=ae (An (d.o.1.trans K3) (d.o.2.trans K3));clear K3 H;obtain⟨i0,hi,af,ag,ah⟩:=info_parts Dl;go_wp2_with fail
   go_loopg [8,31] ss.length (fun gg a q wx=>∃(i:Nat) (ps:List (Clm×Value)),gg=ss.length - i∧i≤ss.length∧q=.int .i64 (i:Int)∧Kp (fun _=>False) w3 wx∧ps.length=i∧ps.map (·.1)=(ss.take i).map (fun s=>⟨s,t,aA l,aG l s⟩)∧ClR wx w3.heap.size a ps)
   case atStart=>exact⟨0,[],rfl,by omega,rfl,Kp.refl _ _,rfl,rfl,World.ownsRow_nil _ _ _ _,fun p h=>(by cases h)⟩
   case round=>
    obtain⟨i,ps,O,aj,rfl,D,Q,f,hC⟩:=hrel;have N:=A.o.2.trans D;have au:=N.size;have al:=D.size;have m:=ae (An O (An D (An f (An hC N))));clear O f;by_cases ad:i < ss.length
    ·have P:(i:Int) < (ss.length:Int):=by omega
     obtain⟨s,hs⟩:∃s,ss[i]? =some s:=⟨ss[i],List.getElem?_eq_getElem ad⟩;obtain⟨g,rfl,hg⟩:=HR.o.2 (by omega);have cx:wr.cell? ⟨g,i,none⟩=some (.string ⟨s.toArray⟩):=aL (an HR.o.1 (A.o.1.trans D) (by simp)) i _ (by rw[List.getElem?_map,hs];rfl);have L:=ae (pG wr l b (K.o.1.up N) K.o.2.1 K.o.2.2 s (ab.o s (List.mem_of_getElem? hs)))
     have S:(ss.take (i+1)).map (fun s=>(⟨s,t,aA l,aG l s⟩:Clm))=(ss.take i).map (fun s=>⟨s,t,aA l,aG l s⟩) ++[⟨s,t,aA l,aG l s⟩]:=by
      rw[gS hs,List.map_append];rfl
     have ac:=ae S;clear S hs D N hC;go_wp2_with fail
     refine L.o.mono ?_;rintro e w5 ⟨V,v,rfl,rv⟩;obtain⟨X,Y,rfl,_,_⟩:=aY rv;have c:=an m.o.2.2.2.1.1 V (by simp);have ao:=V.size;have HV:=ae (An V rv);clear V rv L;go_wp2_with (at_builtin;(refine wpList_append_own_at _ rfl _ _ 102 rfl w3.heap.size 111 i0 (.agg #[.string ⟨#[]⟩,.int .i64 0,.string ⟨#[]⟩,.slice none 0 0]) 4 64 underlying102 hi af ag ah rfl (by decide) _ _ _ rfl (by exact World.ownsRow.alloc c _) ⟨w5.heap.size,0,none⟩ 1 1 (clC (⟨s,t,aA l,aG l s⟩,.slice X (aG l s).length Y)) rfl rfl ?_ (by intro u hu;simp[clC]at hu;rcases hu with rfl | rfl | rfl | rfl <;> rfl) (by unfold maxLen;omega) (by omega) (by simp;omega) ?_))
     ·intro j u hj
      rcases j with _ | _ | _ | _ | j
      all_goals simp[clC]at hj
      all_goals subst hj
      all_goals simp[Addr.add]
     intro v6 w6 y1 y2 _ y3;obtain⟨ca,cc,rfl,_,_⟩:=aY y1;have K6:Kp (fun _=>False) w3 w6:=((m.o.2.1.trans HV.o.1).alloc _).gr y2 (fun r e=>(c.lt r e).1)
     have keep:∀ {v:Value} {n:Nat} {xs:List Value},w5.ownsRow w3.heap.size 193 2 v n xs→w6.ownsRow w3.heap.size 193 2 v n xs:=by
      intro v n xs hr;refine ap hr (fun k e=> ?_);have E:=(hr.lt k e).2;rw[y2.block k (by simp;omega) (fun e2=>dF c hr (by decide) e2.symm e)];exact Below.heap_alloc _ _ _ E
     have y:=keep (cr (show w3.heap.size≤wr.heap.size by omega) HV.o.2);have z:∀p ∈ ps,w6.ownsRow w3.heap.size 193 2 p.2 p.1.sigs.length (p.1.sigs.flatMap sgC):=fun p hp=>keep (an (m.o.2.2.2.1.2 p hp) HV.o.1 (by simp))
     have U:=ae (An K6 (An y1 (An y z)));clear K6 y1 y2 y3 y z keep c;go_wp2;go_roundg (ss.length - (i+1))
     case measure=>rw[m.o.1];omega
     case rel=>
      refine⟨i+1,ps ++[(⟨s,t,aA l,aG l s⟩,.slice X (aG l s).length Y)],rfl,by omega,ak (by omega),U.o.1,by simp[Q], ?_, ?_, ?_⟩
      ·rw[List.map_append,ac.o,m.o.2.2.1]
       rfl
      ·rw[List.flatMap_append,List.length_append,Q]
       have e9:List.flatMap clC [((⟨s,t,aA l,aG l s⟩:Clm),Value.slice X (aG l s).length Y)]=clC (⟨s,t,aA l,aG l s⟩,.slice X (aG l s).length Y):=by simp
       rw[e9];exact U.o.2.1
      ·intro p hp
       rcases List.mem_append.1 hp with h | h
       ·exact U.o.2.2.2 p h
       ·obtain rfl:=List.mem_singleton.1 h
        exact U.o.2.2.1
    ·have P:¬(i:Int) < (ss.length:Int):=by omega
     have T:=A.o.2.size;have f:ps.map (·.1)=ss.map (fun s=>⟨s,t,aA l,aG l s⟩):=by rw[m.o.2.2.1,List.take_of_length_le (by omega)]
     have aa:=ae f;clear f D N hC;go_wp2;go_ret2
     rw[G.o];exact⟨m.o.2.2.2.2,_,ps,rfl,aa.o,cr T m.o.2.2.2.1.1,fun p hp=>cr T (m.o.2.2.2.1.2 p hp)⟩
end
section
open Go Go.RowKit Go.Maps Go.WideMaps Go.MuLone
attribute [local go_sem] Oper.semAt_some
def CkR(W w:World)(o:Nat×Bs)(e:Ending)(w':World):Prop:=Kp (fun _=>False) w w' ∧
 ((o.1=0∧e=.returned .nilIface)∨(∃q a,e=.returned (.iface 188 (.pointer (some ⟨q,0,none⟩)))∧w'.heap[q]? =some (.cells #[.string ⟨o.2.toArray⟩,ax a] 191) ∧
   ((o.1=8∧W.cell? ⟨3,0,none⟩=some (ax a))∨(o.1=5∧Plain W a))))
theorem rm(W:World)(hN:NG3 W)(w:World)(hW:Below W.heap.size W w)(F:Nat→Prop)(kb:Nat)(st:Ldg)(c:Nat)(h:KN w F kb st c)(A:∀s i p,st.keys s i=some p→p.1.length≤600)(cl:Clm)(hcl:ClK cl)(B:Nat)(sv:Value)(row:w.ownsRow B 193 2 sv cl.sigs.length (cl.sigs.flatMap sgC)):
  Calls prog 63 #[.pointer (some ⟨kb,0,none⟩),clV cl sv] w fun e w'=>CkR W w (cR st cl) e w':=by
 obtain⟨eu,hun⟩:∃ea,W.cell? ⟨3,0,none⟩=some (ax ea):=by
  obtain⟨a,_,_,h,_⟩:=hN.n2.lay 3 (by simp[bh]);exact⟨a,h⟩
 obtain⟨es,af,ai⟩:=hN.n2.sml 7 (by simp);obtain⟨L,D,rfl,ao,Z⟩:=aY row;have K0:Kp (fun _=>False) w (w.alloc (eB cl (.slice L cl.sigs.length D))):=(Kp.refl _ _).alloc _;have I0:=heap_alloc_new w (eB cl (.slice L cl.sigs.length D));have O:=ae (pM (w.alloc (eB cl (.slice L cl.sigs.length D))) F kb st c (h.kp2 K0) cl hcl B _ (an row K0 (by simp)));obtain⟨G,H,I,J,d⟩:=ei I0;have x:=ae (An row (An Z (An h (An hcl A))));have u:=ae (An K0 I0);clear row Z h hcl K0 I0 A;unfold clV at *;unfold eB at *;go_enter func63,ntmps63;go_wp2_with fail
 generalize (w.alloc (.cells #[.string ⟨cl.server.toArray⟩,.int .i64 cl.ts,.string ⟨cl.msg.toArray⟩,.slice L cl.sigs.length D] 111))=w0 at *;refine O.o.mono ?_;rintro e w1 ⟨rfl,K1⟩;clear G H I J d;have I1:=K1.heap u.o.2;have z:=u.o.1.trans K1;have r:=ae (An z I1);obtain⟨G,H,I,J,d⟩:=ei (c:=cl) (sv:=.slice L cl.sigs.length D) I1;have R:=Below.cl (am hW z) hun;unfold ax at R;have y:Hid (cR st cl=if dQ st cl then (0,[]) else if b8 st cl then (8,cl.server) else (5,cl.server)):=rfl;clear K1 I1 z O u
 cases hw:b8 st cl with
 |true=>
  have hr:dQ st cl=false:=by
   unfold b8 at hw;simp only[Bool.and_eq_true,Bool.not_eq_true']at hw;have h2:=hw.2;unfold et at h2;rw[List.any_eq_false]at h2;unfold dQ;rw[List.any_eq_false];intro p hp;have:=h2 p hp
   cases hm:bT st cl.server p.1 cl.ts with
   |none=>rw[np hm];simp
   |some k=>rw[hm]at this;simp at this
  have HC:Hid (cR st cl=(8,cl.server)):=by show _=_;rw[y.o,hr,hw];rfl
  clear hr hw;go_wp2;go_ret;rw[HC.o];exact⟨r.o.1.alloc _,Or.inr ⟨_,eu,rfl,heap_alloc_new w1 _,Or.inl ⟨rfl,hun⟩⟩⟩
 |false=>
  have ac:=ae hw;clear hw R;go_wp2_with fail
  go_loopg [21] cl.sigs.length (fun gg a wx=>∃(i:Nat),gg=cl.sigs.length - i∧i≤cl.sigs.length∧a=.int .i64 (i:Int)∧Kp (fun _=>False) w1 wx∧∀(j:Nat) (p:Bs×Bs),j < i→cl.sigs[j]? =some p→okS st cl p=false)
  case atStart=>exact⟨0,rfl,by omega,rfl,Kp.refl _ _,fun _ _ h=>absurd h (by omega)⟩
  case round=>
   obtain⟨i,S,aj,rfl,Q,t⟩:=hrel;have E:=r.o.1.trans Q;have n:=ae (An S (An t (An Q E)));clear G H I J d;obtain⟨G,H,I,J,d⟩:=ei (c:=cl) (sv:=.slice L cl.sigs.length D) (Q.heap r.o.2);clear S t;by_cases ag:i < cl.sigs.length
   ·have U:(i:Int) < (cl.sigs.length:Int):=by omega
    obtain⟨p,hp⟩:∃p,cl.sigs[i]? =some p:=⟨cl.sigs[i],List.getElem?_eq_getElem ag⟩;obtain⟨g,rfl,hg⟩:=x.o.2.1 (by omega);obtain⟨s0,s1⟩:=su (an x.o.1 E (by simp)) i p hp;have Ka:Kp (fun _=>False) wr (wr.alloc (.cells #[.string ⟨p.1.toArray⟩,.string ⟨p.2.toArray⟩] 193)):=(Kp.refl _ _).alloc _;have Ia:=heap_alloc_new wr (.cells #[.string ⟨p.1.toArray⟩,.string ⟨p.2.toArray⟩] 193);have HF:=ae x.o.2.2.1;have HM:=ae (pi (wr.alloc (.cells #[.string ⟨p.1.toArray⟩,.string ⟨p.2.toArray⟩] 193)) F kb st c (HF.o.kp2 (E.trans Ka)) cl.server p.1 (by have:=x.o.2.2.2.1.srv;omega) (by have:=x.o.2.2.2.1.ids p (List.mem_of_getElem? hp);omega) cl.ts)
    have next:okS st cl p=false→∀(j:Nat) (q:Bs×Bs),j < i+1→cl.sigs[j]? =some q→okS st cl q=false:=by
     intro ah j q hj f;rcases Nat.lt_or_ge j i with h | h
     ·exact n.o.2.1 j q h f
     ·have:j=i:=by omega
      subst this;rw[hp]at f;injection f with f
      subst f;exact ah
    have good:okS st cl p=true→cR st cl=(0,[]):=by
     intro aa
     have:dQ st cl=true:=by
      unfold dQ;rw[List.any_eq_true];exact⟨p,List.mem_of_getElem? hp,aa⟩
     rw[y.o,this];rfl
    have T:∀k,bT st cl.server p.1 cl.ts=some k→k.length≤600:=by
     intro k m;unfold bT at m
     cases f:st.keys cl.server p.1 with
     |none=>rw[f]at m;cases m
     |some q=>
      have:=x.o.2.2.2.2 _ _ q f;rw[f]at m;simp only[Option.bind_some]at m;split at m
      ·cases m
      ·injection m with m
       subst m;exact this
    have al:=x.o.2.2.2.1.msg;have v:=ae (An next (An good T));have M:=ae (An Ka Ia);clear next good T hp Q E;go_wp2_with fail
    generalize (wr.alloc (.cells #[.string ⟨p.1.toArray⟩,.string ⟨p.2.toArray⟩] 193))=wa at *;clear Ka Ia;refine HM.o.mono ?_;rintro e X ⟨rfl,KX⟩;have P:=ae (An (M.o.1.trans KX) (An (KX.heap M.o.2) KX));clear KX HM
    cases hm:bT st cl.server p.1 cl.ts with
    |none=>
     simp only[Option.isSome_none];have l:=ae (v.o.1 (np hm));clear v hm;go_wp2;go_quiet (fail)
     go_wp2;go_roundg (cl.sigs.length - (i+1))
     all_goals first
      | (rw[n.o.1];omega)
      |exact⟨i+1,rfl,by omega,ak (by omega),(n.o.2.2.1.trans P.o.1).drewN _,l.o⟩
    |some k=>
     have A:=v.o.2.2 k hm;obtain⟨tl,htl⟩:∃tl:Bs,cQ ⟨k.toArray⟩ ⟨cl.msg.toArray⟩=⟨tl.toArray⟩:=⟨_,rfl⟩;have V:=rI hm htl;simp only[Option.getD_some,Option.isSome_some];have b:=nC ⟨k.toArray⟩ ⟨cl.msg.toArray⟩ X.drew (by rw[aN];omega) (by rw[aN];omega);rw[htl]at b;have ab:=ae b;have N:=ae V;clear hm b htl V;clear G H I J d;obtain⟨G,H,I,J,d⟩:=ei (c:=cl) (sv:=.slice (some ⟨g,0,none⟩) cl.sigs.length D) ((n.o.2.2.1.trans P.o.1).heap r.o.2);have x1:X.cell? ⟨wr.heap.size,1,none⟩=some (.string ⟨p.2.toArray⟩):=by simp[World.cell?,P.o.2.1]
     go_wp2_with fail
     refine oS ?_ (fun Y=>Kp (fun _=>False) X.drew Y) ?_ ?_;rotate_left
     ·go_region_law (refine vL (by rfl) 52 _ _ rfl #[.string ⟨k.toArray⟩,.string ⟨cl.msg.toArray⟩] (by go_simp) ?_;refine ab.o.mono ?_;rintro e w2 ⟨rfl,f⟩;have y1:=(Kp.of_below f).cel (show X.drew.cell? ⟨wr.heap.size,1,none⟩=some (.string ⟨p.2.toArray⟩) from x1))
      all_goals exact gL (Kp.of_below f)
     intro Y KY;have HY:=ae (An (n.o.2.2.1.trans (P.o.1.drew.trans KY)) (n.o.2.2.2.trans (P.o.1.drew.trans KY)));clear KY;by_cases K:p.2=tl
     ·have C:(p.2 == tl)=true:=by simpa using K
      have l:=ae (v.o.2.1 (by rw[N.o];simpa using K));clear v K;simp only[C];go_wp2;go_ret;rw[l.o];exact⟨HY.o.2,Or.inl ⟨rfl,rfl⟩⟩
     ·have C:(p.2 == tl)=false:=by simpa using K
      have l:=ae (v.o.1 (by rw[N.o];simpa using K));clear v K;simp only[C];go_wp2;go_roundg (cl.sigs.length - (i+1))
      case measure=>rw[n.o.1];omega
      case rel=>exact⟨i+1,rfl,by omega,ak (by omega),HY.o.1,l.o⟩
   ·have U:¬(i:Int) < (cl.sigs.length:Int):=by omega
    have HC:Hid (cR st cl=(5,cl.server)):=by
     show _=_
     have:dQ st cl=false:=by
      unfold dQ;rw[List.any_eq_false];intro p hp;obtain⟨j,hj,he⟩:=List.mem_iff_getElem.1 hp;have:=n.o.2.1 j p (by omega) (by rw[List.getElem?_eq_getElem hj,he]);rw[this];simp
     rw[y.o,this,ac.o];rfl
    have ad:=Below.cl (am hW E) af;unfold ax at ad;clear Q E;go_wp2;go_ret;rw[HC.o];exact⟨n.o.2.2.2.alloc _,Or.inr ⟨_,es,rfl,heap_alloc_new wr _,Or.inr ⟨rfl,ai⟩⟩⟩
end
section
open Go Go.RowKit Go.Maps Go.WideMaps
attribute [local go_sem] Oper.semAt_some
theorem Ech.evnt{W w:World}{b:Nat}{ev:Value}(h:Ech W w ev)(hb:w.heap[b]? =some (.cells #[ev] 187)):Chd W w (.iface 118 (.pointer (some ⟨b,0,none⟩))) 7:=by
 obtain⟨a,d,e,c,f⟩:=h.chain
 exact⟨a,(.evt,⟨#[]⟩) :: d,.cons .evt d b ⟨#[]⟩ ev hb e,c.1,c.2 _ (by simp[bh]),c.2 _ (by simp[bh]),.evt (.evt,⟨#[]⟩) (by
   rw[List.find?_cons];simp only[show ((Lk.evt,(⟨#[]⟩:ByteArray)).1 == Lk.doc)=false from rfl];exact jZ f _ (by decide)) (c.2 _ (by simp[bh])) (by simp)⟩
def Evr(W w:World)(ev:Value)(n:Nat):Prop:=EV W w ev n∨∃a ks,Chn w a ks ev∧ks.find? (fun p=>p.1 == Lk.srv)=none∧Chd W w ev n
def ReR(W w:World)(o:Except Nat (List Clm))(e:Ending)(w':World):Prop:=Kp (fun _=>False) w w'∧match o with
 |.ok cs=>∃v ps,e=.returned (.tuple #[v,.nilIface])∧ps.map (·.1)=cs∧ClR w' w.heap.size v ps
 |.error n=>∃tt uu,e=.returned (.tuple #[.slice none 0 0,.iface tt uu])∧Evr W w' (.iface tt uu) n
theorem tA(W:World)(hN:NG2 W)(text:Bs)(w:World)(hW:Below W.heap.size W w):
  Calls prog 57 #[.string ⟨text.toArray⟩] w fun e w'=>ReR W w (bM text) e w':=by
 have C:=ae (iT W hN.ng ⟨text.toArray⟩ w hW);have N:(⟨text.toArray⟩:ByteArray).data.toList=text:=by simp
 rw[N]at C;clear N;go_enter func57,ntmps57;go_wp2_with fail
 refine C.o.mono ?_;rintro e w1 ⟨m,⟨l,b,c,rfl,P⟩ | ⟨n,S,c,rfl,f,B,u,rfl⟩⟩
 ·have Q:Oz w1 l b:=Rep.mono (fun j hj=>hj.2) _ P
  obtain⟨hp,O⟩:=eX c;obtain⟨A,x⟩:=eD hp;have r:(cJ (.obj l)).length≤600:=Nat.le_trans x O;have g:=ae (uX W hN w1 (am hW m) l b Q A r);have J:=ae c;have h:=ae m;clear C c P Q hp O A x r m;go_wp2_with fail
  refine g.o.mono ?_;rintro e w2 ⟨K,E⟩;have i:=ae (h.o.trans K);have z:=h.o.size;clear K g
  cases hcm:dI l with
  |none=>
   rw[hcm]at E;obtain⟨S,rfl,f⟩:=E;obtain⟨B,F,rfl⟩:=f.iface;have k:Hid (bM text=.error 7):=by show _=_;unfold bM;rw[J.o];simp only[hcm]
   have D:Kp (fun _=>False) w2 (w2.alloc (.cells #[.iface B F] 187)):=(Kp.refl _ _).alloc _;have q:=(f.up D).evnt (heap_alloc_new w2 (.cells #[.iface B F] 187));obtain⟨a,I,L,R,M⟩:=(f.up D).chain;have s:Chn (w2.alloc (.cells #[.iface B F] 187)) a ((.evt,⟨#[]⟩) :: I) (.iface 118 (.pointer (some ⟨w2.heap.size,0,none⟩))):=.cons .evt I _ ⟨#[]⟩ _ (heap_alloc_new w2 (.cells #[.iface B F] 187)) L
   have t:((Lk.evt,(⟨#[]⟩:ByteArray)) :: I).find? (fun p=>p.1 == Lk.srv)=none:=by
    rw[List.find?_cons];simp only[show ((Lk.evt,(⟨#[]⟩:ByteArray)).1 == Lk.srv)=false from rfl];exact jZ M _ (by decide)
   have d:=ae (An (i.o.trans D) (An q (An s t)));clear f hcm q s t L R M D;go_wp2;go_ret2
   rw[k.o];exact⟨d.o.1,_,_,rfl,Or.inr ⟨_,_,d.o.2.2.1,d.o.2.2.2,d.o.2.1⟩⟩
  |some cs=>
   rw[hcm]at E;obtain⟨v,ps,rfl,y,H⟩:=E;obtain⟨T,U,rfl,_,_⟩:=aY H.1;have k:Hid (bM text=.ok cs):=by show _=_;unfold bM;rw[J.o];simp only[hcm]
   have G:=ae (An y H);clear hcm y H;go_wp2;go_ret2
   rw[k.o];exact⟨i.o,_,ps,rfl,G.o.1,cr z G.o.2.1,fun p hp=>cr z (G.o.2.2 p hp)⟩
 ·have k:Hid (bM text=.error n):=by show _=_;unfold bM;rw[c]
  have d:=ae (An m f);clear c f m C;go_wp2;go_ret2
  rw[k.o];exact⟨d.o.1,_,_,rfl,Or.inl d.o.2⟩
theorem kH{w:World}{rb:Nat}{a b:Value}(tmps:Array Value)(h2:tmps[2]?.getD undef=.pointer (some ⟨rb,0,none⟩))(hb:w.heap[rb]? =some (.cells #[a,b] 52)):
  (results Tryz.f58 tmps).run prog w=.ok (.agg #[a,b]) w:=by
 obtain⟨⟨c,d⟩,_⟩:=aH hb;simp[results,results58,go_sem,h2,c,d]
theorem Bj(W:World)(hN:NG2 W)(w w0:World)(K0:Kp (fun _=>False) w w0)(hW0:Below W.heap.size W w0)(ev:Value)(n tb:Nat)(hh:Evr W w ev n)(ht:w0.heap[tb]? =some (.cells #[.pointer none] 188)):
  Calls prog 67 #[ev,.iface 189 (.pointer (some ⟨tb,0,none⟩))] w0 fun e w'=>AsR Lk.srv 188 w0 tb none e w':=by
 have b:=Below.cl hW0 hN.ng.ety;rcases hh with (⟨_,h⟩ | ⟨_,fb,rfl,k,g,cb,hf,_⟩ | ⟨_,h⟩) | ⟨a,ks,hc,hf,_⟩
 ·obtain⟨a,c,t,d,_⟩:=hN.ng.lon
  rw[d]at h;injection h with h
  subst h;exact nF w0 a [] _ .nil tb _ b ht
 ·exact Bk w0 fb _ cb (K0.heap hf) tb _ b ht
 ·obtain⟨a,c,t,d,_⟩:=hN.ng.obj
  rw[d]at h;injection h with h
  subst h;exact nF w0 a [] _ .nil tb _ b ht
 ·have:=nF w0 a ks ev (hc.kp K0) tb _ b ht
  rw[hf]at this;exact this
theorem Evr.enr{W w w':World}{ev:Value}{n:Nat}(h:Evr W w ev n)(K:Kp (fun _=>False) w w'):Enr W w' ev n:=by
 rcases h with h | ⟨_,_,_,_,h⟩
 ·exact Or.inl (h.up K)
 ·exact Or.inr (h.up K)
theorem vw(W:World)(hN:NG2 W)(w:World)(hW:Below W.heap.size W w)(tt:TypeId)(uu:Value)(n:Nat)(hh:Evr W w (.iface tt uu) n):
  Calls prog 58 #[.iface tt uu] w fun e w'=>e=.returned (eK (n,[]))∧Kp (fun _=>False) w w':=by
 have i:Kp (fun _=>False) w ((w.alloc (.cells #[.int .i64 0,.string ⟨#[]⟩] 52)).alloc (.cells #[.pointer none] 188)):=((Kp.refl _ _).alloc _).alloc _;have p:((w.alloc (.cells #[.int .i64 0,.string ⟨#[]⟩] 52)).alloc (.cells #[.pointer none] 188)).heap[w.heap.size]? =some (.cells #[.int .i64 0,.string ⟨#[]⟩] 52):=((Kp.refl (fun _=>False) _).alloc _).heap (heap_alloc_new w _)
 have r:((w.alloc (.cells #[.int .i64 0,.string ⟨#[]⟩] 52)).alloc (.cells #[.pointer none] 188)).heap[w.heap.size+1]? =some (.cells #[.pointer none] 188):=by
  have:=heap_alloc_new (w.alloc (.cells #[.int .i64 0,.string ⟨#[]⟩] 52)) (.cells #[.pointer none] 188);rwa[World.size_alloc]at this
 have b:=ae (Bj W hN w _ i (am hW i) _ n _ hh r);have h:=ae (An hh (An i p));clear hh i p r;go_enter func58,ntmps58;go_wp2_with fail
 generalize ((w.alloc (.cells #[.int .i64 0,.string ⟨#[]⟩] 52)).alloc (.cells #[.pointer none] 188))=w0 at *;refine b.o.mono ?_;rintro e w1 ⟨k,m⟩;replace m:e=.returned (.bool false):=m;subst m;have a:Kp (fun _=>False) w w1:=h.o.2.1.and k (fun q hq e=>by omega);have g:w1.heap[w.heap.size]? =some (.cells #[.int .i64 0,.string ⟨#[]⟩] 52):=(k.block _ (ag h.o.2.2) (by omega)).trans h.o.2.2;have c:=ae (jF W hN w1 (am hW a) _ n (h.o.1.enr a));have d:=ae (An a g);clear k a g b;go_wp2_with fail
 refine c.o.mono ?_;rintro e w2 ⟨rfl,l⟩;have j:=l.heap d.o.2;obtain⟨⟨s,t⟩,u,v⟩:=aH j;have f:=ae (An (d.o.1.trans l) j);clear l j c;go_wp2;refine bodyPost_ret (kH _ rfl (bO f.o.2)) rfl ?_;exact⟨rfl,gQ f.o.1 (Nat.le_refl _)⟩
theorem C8(t:TypeId)(u:Value)(w:World):Calls prog 67 #[.nilIface,.iface t u] w fun e w'=>e=.returned (.bool false)∧w'=w:=by
 go_enter func67,ntmps67;go_wp2;go_ret;exact⟨rfl,rfl⟩
theorem tx(w:World):Calls prog 58 #[.nilIface] w fun e w'=>e=.returned (eK (0,[]))∧Kp (fun _=>False) w w':=by
 have i:Kp (fun _=>False) w ((w.alloc (.cells #[.int .i64 0,.string ⟨#[]⟩] 52)).alloc (.cells #[.pointer none] 188)):=((Kp.refl _ _).alloc _).alloc _;have h:((w.alloc (.cells #[.int .i64 0,.string ⟨#[]⟩] 52)).alloc (.cells #[.pointer none] 188)).heap[w.heap.size]? =some (.cells #[.int .i64 0,.string ⟨#[]⟩] 52):=((Kp.refl (fun _=>False) _).alloc _).heap (heap_alloc_new w _);have a:=ae (C8 189 (.pointer (some ⟨w.heap.size+1,0,none⟩)) ((w.alloc (.cells #[.int .i64 0,.string ⟨#[]⟩] 52)).alloc (.cells #[.pointer none] 188)));have c:=ae (An i h);clear i h;go_enter func58,ntmps58;go_wp2_with fail
 generalize ((w.alloc (.cells #[.int .i64 0,.string ⟨#[]⟩] 52)).alloc (.cells #[.pointer none] 188))=w0 at *;refine a.o.mono ?_;rintro e w1 ⟨rfl,rfl⟩;have b:=ae (pQ w1);clear a;go_wp2_with fail
 refine b.o.mono ?_;rintro e w2 ⟨rfl,g⟩;have f:=g.heap c.o.2;obtain⟨⟨j,k⟩,l,m⟩:=aH f;have d:=ae (An (c.o.1.trans g) f);clear g f b;go_wp2;refine bodyPost_ret (kH _ rfl (bO d.o.2)) rfl ?_;exact⟨rfl,gQ d.o.1 (Nat.le_refl _)⟩
def OcC(w1:World)(n:Nat)(o:Nat×Bs)(Y:World):Prop:=∃X,Kp (fun _=>False) w1.drew X∧Y=(X.setCell ⟨n,0,none⟩ (.int .i64 (o.1:Int))).setCell ⟨n,1,none⟩ (.string ⟨o.2.toArray⟩)
theorem mJ(W:World)(hN:NG3 W)(w:World)(hW:Below W.heap.size W w)(o:Nat×Bs)(q:Nat)(a:Addr)(i:w.heap[q]? =some (.cells #[.string ⟨o.2.toArray⟩,ax a] 191))(G:(o.1=8∧W.cell? ⟨3,0,none⟩=some (ax a))∨(o.1=5∧Plain W a)):
  Calls prog 58 #[.iface 188 (.pointer (some ⟨q,0,none⟩))] w fun e w'=>e=.returned (eK o)∧Kp (fun _=>False) w w':=by
 have v:Kp (fun _=>False) w ((w.alloc (.cells #[.int .i64 0,.string ⟨#[]⟩] 52)).alloc (.cells #[.pointer none] 188)):=((Kp.refl _ _).alloc _).alloc _;have D:((w.alloc (.cells #[.int .i64 0,.string ⟨#[]⟩] 52)).alloc (.cells #[.pointer none] 188)).heap[w.heap.size]? =some (.cells #[.int .i64 0,.string ⟨#[]⟩] 52):=((Kp.refl (fun _=>False) _).alloc _).heap (heap_alloc_new w _)
 have E:((w.alloc (.cells #[.int .i64 0,.string ⟨#[]⟩] 52)).alloc (.cells #[.pointer none] 188)).heap[w.heap.size+1]? =some (.cells #[.pointer none] 188):=by
  have:=heap_alloc_new (w.alloc (.cells #[.int .i64 0,.string ⟨#[]⟩] 52)) (.cells #[.pointer none] 188);rwa[World.size_alloc]at this
 have g:∀X,Kp (fun _=>False) w X→Chn X a [(.srv,⟨o.2.toArray⟩)] (.iface 188 (.pointer (some ⟨q,0,none⟩))):=fun X x=>.cons .srv [] q ⟨o.2.toArray⟩ (ax a) (x.heap i) .nil
 have h:∀X,Kp (fun _=>False) w X→Chd W X (.iface 188 (.pointer (some ⟨q,0,none⟩))) o.1:=by
  intro X x;rcases G with⟨m,s⟩ | ⟨m,hp⟩
  ·rw[m]
   obtain⟨K,c,t,d,H⟩:=hN.n2.lay 3 (by simp[bh]);rw[s]at d;unfold ax at d;injection d with d
   injection d with _ d
   injection d with d
   injection d with d
   subst d;exact⟨a,_,g X x,⟨c,t,H⟩,hN.dis _ (by simp[bh]) _ (by simp[bh]) (by decide) a s,hN.dis _ (by simp[bh]) _ (by simp[bh]) (by decide) a s,.unk (by simp) (hN.dis _ (by simp[bh]) _ (by simp[bh]) (by decide) a s) (by simp) s⟩
  ·rw[m]
   exact⟨a,_,g X x,hp.1,hp.2 _ (by simp[bh]),hp.2 _ (by simp[bh]),.other (by simp) (hp.2 _ (by simp[bh])) (by simp) (hp.2 _ (by simp[bh]))⟩
 have n:=ae (nF _ a _ _ (g _ v) (w.heap.size+1) _ (Below.cl (am hW v) hN.n2.ng.ety) E);have u:=ae (An h (An v D));clear G v D E g h i;go_enter func58,ntmps58;go_wp2_with fail
 generalize ((w.alloc (.cells #[.int .i64 0,.string ⟨#[]⟩] 52)).alloc (.cells #[.pointer none] 188))=w0 at *;refine n.o.mono ?_;rintro e w1 ⟨z,m⟩;have B:e=.returned (.bool true)∧∃b F,w1.heap[w.heap.size+1]? =some (.cells #[.pointer (some ⟨b,0,none⟩)] 188)∧w1.heap[b]? =some (.cells #[.string ⟨o.2.toArray⟩,F] 191):=m;obtain⟨rfl,b,F,k,l⟩:=B;clear m;have f:Kp (fun _=>False) w w1:=u.o.2.1.and z (fun q i e=>by omega);have r:w1.heap[w.heap.size]? =some (.cells #[.int .i64 0,.string ⟨#[]⟩] 52):=(z.block _ (ag u.o.2.2) (by omega)).trans u.o.2.2;have y:=ae (jF W hN.n2 w1.drew (am hW f.drew) _ o.1 (Or.inr (u.o.1 w1.drew f.drew)));obtain⟨I,L⟩:=aj k;obtain⟨⟨J,Q⟩,_⟩:=aH l;have j:=ae (An f (An r (An k l)));clear z f r n k l;go_wp2_with fail
 refine oS ?_ (OcC w1 w.heap.size o) ?_ ?_;rotate_left
 ·go_region_law (refine aF rfl 35 _ _ rfl #[.iface 188 (.pointer (some ⟨q,0,none⟩))] (by go_simp) ?_;refine y.o.mono ?_;rintro e w2 ⟨rfl,i⟩;have t0:=i.cel (show w1.drew.cell? ⟨w.heap.size+1,0,none⟩=_ from I);have R:=i.cel (show w1.drew.cell? ⟨b,0,none⟩=_ from J);obtain⟨⟨M,N⟩,O,P⟩:=aH (i.heap (show w1.drew.heap[w.heap.size]? =_ from j.o.2.1)))
  all_goals exact gL (C:=OcC w1 w.heap.size o) ⟨_,i,rfl⟩
 rintro _ ⟨X,A,rfl⟩;have p:=ae (An (j.o.1.drew.trans A) (A.heap (show w1.drew.heap[w.heap.size]? =_ from j.o.2.1)));clear A;go_wp2;refine bodyPost_ret (kH _ rfl (bO p.o.2)) rfl ?_;exact⟨rfl,gQ p.o.1 (Nat.le_refl _)⟩
end
section
open Go Go.RowKit Go.Maps
theorem sA{α:Type}{m:List (Bs×α)}(h:Srt m):(m.map (·.1)).Nodup:=by
 unfold List.Nodup;rw[List.pairwise_map];refine List.Pairwise.imp ?_ h;intro a b c e;rw[e]at c;exact dz _ c
theorem lH{α:Type}{m:List (Bs×α)}(h:Srt m){x:Bs}(hx:x ∈ m.map (·.1)):ai x m≠none:=by
 obtain⟨p,hp,rfl⟩:=List.mem_map.1 hx;obtain⟨j,b,a⟩:=List.mem_iff_getElem.1 hp;rw[lG m h j p (by rw[List.getElem?_eq_getElem b,a])];simp
def aR(T:List Bs):Nat:=1100*T.length
theorem RN.tight{w:World}{F:Nat→Prop}{b:Nat}{nm id ky:Bs}{so:Value}{st:Ldg}{c:Nat}(h:RN w F b nm id ky so st c){T:List Bs}(hT:LOk T st):RN w F b nm id ky so st (aR T):=by
 obtain⟨l,d,a,L,D,A,j,f,n,o,p,m⟩:=h;refine⟨l,d,a,L,D,A,j,f, ?_, ?_, ?_,m⟩
 ·have:=hT.keys_le f.nl (by
    intro x i;obtain⟨k,g,rfl⟩:=List.mem_map.1 i;rw[f.keys];unfold cK;intro e;rw[Option.map_eq_none_iff,List.find?_eq_none]at e;exact e k g (jK.2 ⟨rfl,rfl⟩))
  rw[List.length_map]at this;exact this
 ·have:=hT.docs_le f.nd (by
    intro x i;obtain⟨k,g,rfl⟩:=List.mem_map.1 i;rw[f.docs];unfold asc;intro e;rw[Option.map_eq_none_iff,List.find?_eq_none]at e;exact e k g (by simp[isS]))
  rw[List.length_map]at this;unfold aR;omega
 ·have:=hT.asked_le f.na (by
    intro x i;obtain⟨k,g,rfl⟩:=List.mem_map.1 i;rw[f.asked];unfold asc;intro e;rw[Option.map_eq_none_iff,List.find?_eq_none]at e;exact e k g (by simp[isS]))
  rw[List.length_map]at this;unfold aR;omega
theorem KN.tight{w:World}{F:Nat→Prop}{kb:Nat}{st:Ldg}{c:Nat}(h:KN w F kb st c){T:List Bs}(hT:LOk T st):KN w F kb st (aR T):=by
 obtain⟨r,p,u,q,m,n,k,h⟩:=h;refine⟨r,p,u,q,m,n,k,⟨h.kblk,h.ms,h.mi,h.ss,h.si,h.look,h.vain,fun s t hs=>⟨(h.srv s t hs).1, ?_⟩,h.non,h.inj,h.off,h.mbib, ?_, ?_,h.fk,h.fm,h.fi,h.fs⟩⟩
 ·have j:=(h.srv s t hs).1
  have:=hT.keys_le (l:=((k s).map (·.1)).map fun i=>(s,i)) (by
    unfold List.Nodup;rw[List.pairwise_map];refine List.Pairwise.imp ?_ (sA j.srt);intro a b g e;injection e with _ e
    exact g e) (by
    intro x f;obtain⟨i,o,rfl⟩:=List.mem_map.1 f;have d:=lH j.srt o;rw[j.look i]at d;intro e;simp only[]at e;rw[e]at d;exact d rfl)
  rw[List.length_map,List.length_map]at this;exact this
 ·have:=hT.docs_le (sA h.ss) (by
    intro x f;have d:=lH h.ss f;rw[h.look x]at d;intro e;rw[e]at d;exact d rfl)
  rw[List.length_map]at this;unfold aR;omega
 ·have:=hT.asked_le (sA h.si) (by
    intro x f;have d:=lH h.si f;rw[h.vain x]at d;intro e;rw[e]at d;exact d rfl)
  rw[List.length_map]at this;unfold aR;omega
theorem PNs.tight{w:World}{F Fk:Nat→Prop}{nb kb:Nat}{nm id ky:Bs}{so:Value}{srcs:List Bs}{st:Ldg}{c:Nat}(h:PNs w F Fk nb kb nm id ky so srcs st c){T:List Bs}(hT:LOk T st):PNs w F Fk nb kb nm id ky so srcs st (aR T):=⟨h.nblk,h.kn.tight hT,h.rso,h.fn,h.fso,h.fk,h.nf,h.lt⟩
theorem pN(rs:List Rpl)(now:Int)(c:Clm):∀(l:List Bs) (st:Ldg) (n:Nat),(bF rs now c st l n).2.2.asked=st.asked
 | [],st,n=>rfl
 |a :: l,st,n=>by
  have b:(bf rs now c.server st a).2.asked=st.asked:=by
   unfold bf;split
   ·rfl
   ·split
    ·rfl
    ·split
     ·unfold bR
      split
      ·rfl
      ·exact ii _ _ _ _
     ·rfl
  simp only[bF];split
  ·exact b
  ·rw[pN rs now c l]
   exact b
end
section
open Go Go.RowKit Go.Maps Go.WideMaps
attribute [local go_sem] Oper.semAt_some
theorem te(w:World)(v:Value)(hv:∃a n c,v=.slice a n c):Calls prog 59 #[v] w fun e w'=>e=.returned (.func (.func 102) #[] #[.pointer (some ⟨w.heap.size,0,none⟩)])∧w'=w.alloc (.cells #[v] 91):=by
 obtain⟨a,n,c,rfl⟩:=hv;go_enter func59,ntmps59;go_wp2;go_ret;exact⟨rfl,rfl⟩
theorem Bm(W:World)(hN:NG3 W)(w:World)(hW:Below W.heap.size W w)(rs:List Rpl)(ra:Option Addr)(rc cb:Nat)(hI:RpI w rs ra)(hrl:rs.length≤1100000000)(hcb:w.heap[cb]? =some (.cells #[.slice ra rs.length rc] 91))(src srv:Bs):
  Calls prog 102 #[.string ⟨src.toArray⟩,.string ⟨srv.toArray⟩,.pointer (some ⟨cb,0,none⟩)] w fun e w'=>Kp (fun _=>False) w w'∧((∃t,eR rs src srv=some t∧e=.returned (.tuple #[.string ⟨t.toArray⟩,.nilIface]))∨(∃a,eR rs src srv=none∧e=.returned (.tuple #[.string ⟨#[]⟩,ax a]))):=by
 obtain⟨K,E,_⟩:=hN.oth 6 (by simp);obtain⟨P,_⟩:=aj hcb;have M:=ae hI;clear hI;go_enter func102,ntmps102;go_wp2_with fail
 go_loopg [11] rs.length (fun gg q wx=>∃(i:Nat),gg=rs.length - i∧i≤rs.length∧q=.int .i64 (i:Int)∧Kp (fun _=>False) w wx∧∀(j:Nat) (p:Rpl),j < i→rs[j]? =some p→isR src srv p=false)
 case atStart=>exact⟨0,rfl,by omega,rfl,Kp.refl _ _,fun _ _ h=>absurd h (by omega)⟩
 case round=>
  obtain⟨i,x,N,rfl,d,f⟩:=hrel;have m:=ae (An x (An d f));have v:=Below.cl (am hW d) E;unfold ax at v;clear x f;by_cases F:i < rs.length
  ·have y:(i:Int) < (rs.length:Int):=by omega
   obtain⟨p,hp⟩:∃p,rs[i]? =some p:=⟨rs[i],List.getElem?_eq_getElem F⟩;obtain⟨g,o,rfl,H,I,J,A⟩:=M.o.cells hp;replace H:=d.cel H;replace I:=d.cel I;replace J:=d.cel J;replace A:=d.cel A;have z:Kp (fun _=>False) wr (wr.alloc (.cells #[.string ⟨p.src.toArray⟩,.string ⟨p.srv.toArray⟩,.string ⟨p.text.toArray⟩,.bool p.fails] 160)):=(Kp.refl _ _).alloc _;have k:=z.cel v;have c:=ae (An z (m.o.2.1.trans z));clear d z
   have next:isR src srv p=false→∀(j:Nat) (q:Rpl),j < i+1→rs[j]? =some q→isR src srv q=false:=by
    intro G j q O r;rcases Nat.lt_or_ge j i with h | h
    ·exact m.o.2.2 j q h r
    ·have:j=i:=by omega
     subst this;rw[hp]at r;injection r with r
     subst r;exact G
   have l:=ae (An next hp);clear next hp;by_cases n:p.src=src
   ·have C:(p.src == src)=true:=by simpa using n
    by_cases u:p.srv=srv
    ·have D:(p.srv == srv)=true:=by simpa using u
     have L:=uf l.o.2 (show isR src srv p=true by simp[isR,n,u]) m.o.2.2;have s:=ae L;clear L n u
     cases hfa:p.fails with
     |true=>
      rw[hfa]at s A c k;clear hfa;go_wp2;go_region
      all_goals go_wp2
      all_goals go_ret2
      all_goals exact⟨c.o.2.drew,Or.inr ⟨K,s.o,rfl⟩⟩
     |false=>
      rw[hfa]at s A c k;clear hfa;go_wp2;go_ret2
      exact⟨c.o.2,Or.inl ⟨p.text,s.o,rfl⟩⟩
    ·have D:(p.srv == srv)=false:=by simpa using u
     have B:=ae (l.o.1 (by simp[isR,u]));clear n u;go_wp2;go_roundg (rs.length - (i+1))
     case measure=>rw[m.o.1];omega
     case rel=>exact⟨i+1,rfl,by omega,ak (by omega),c.o.2,B.o⟩
   ·have C:(p.src == src)=false:=by simpa using n
    have B:=ae (l.o.1 (by simp[isR,n]));clear n;go_wp2;go_roundg (rs.length - (i+1))
    case measure=>rw[m.o.1];omega
    case rel=>exact⟨i+1,rfl,by omega,ak (by omega),c.o.2,B.o⟩
  ·have y:¬(i:Int) < (rs.length:Int):=by omega
   have s:=ae (qV (rs:=rs) (a:=src) (b:=srv) (fun j q O r=>m.o.2.2 j q (by omega) r));clear d;go_wp2;go_region
   all_goals go_wp2
   all_goals go_ret2
   all_goals exact⟨m.o.2.1.drew,Or.inr ⟨K,s.o,rfl⟩⟩
theorem sy(w:World)(F Fk:Nat→Prop)(nb kb:Nat)(nm id ky:Bs)(so:Value)(xs:List Bs)(st:Ldg)(c:Nat)(hP:PNs w F Fk nb kb nm id ky so xs st c)(hxl:xs.length≤1100000000)(s:Bs):
  Calls prog 104 #[.pointer (some ⟨nb,0,none⟩),.string ⟨s.toArray⟩] w fun e w'=>∃v,e=.returned v∧Kp (fun _=>False) w w'∧w'.ownsRow w.heap.size 9 1 v (cT s xs).length ((cT s xs).map fun x=>.string ⟨x.toArray⟩):=by
 obtain⟨i0,B,D,E,G⟩:=info_parts ew;obtain⟨va,vc,rfl,T,q⟩:=aY hP.rso;obtain⟨n0,n1,n2,V,n4⟩:=cX hP.nblk;have O:=World.ownsRow_lit (base:=w.heap.size) (e:=9) (size:=1) w #[.string ⟨s.toArray⟩] 1 (Nat.le_refl _) (by unfold maxLen;omega) rfl;have z:=ae (An hP.rso (An q (An O hP.nblk)));clear hP q O;have L:Kp (fun _=>False) w (w.alloc (.cells #[.string ⟨s.toArray⟩] 9)):=(Kp.refl _ _).alloc _;have W:=L.cel V;go_enter func104,ntmps104;go_wp2_with fail
 go_loopg [5,15] xs.length (fun gg a bb wx=>∃(i:Nat) (d:List Bs),gg=xs.length - i∧i≤xs.length∧bb=.int .i64 (i:Int)∧Kp (fun _=>False) w wx∧d=s :: (xs.take i).filter (fun x=>decide (x≠s))∧d.length≤i+1∧wx.ownsRow w.heap.size 9 1 a d.length (d.map fun x=>.string ⟨x.toArray⟩))
 case atStart=>exact⟨0,[s],rfl,by omega,rfl,L,rfl,by simp,z.o.2.2.1⟩
 case round=>
  obtain⟨i,d,m,R,rfl,k,t,U,row⟩:=hrel;have b:=ae (An m (An k t));clear m t;by_cases C:i < xs.length
  ·have n:(i:Int) < (xs.length:Int):=by omega
   obtain⟨x,hx⟩:∃x,xs[i]? =some x:=⟨xs[i],List.getElem?_eq_getElem C⟩;obtain⟨g,rfl,hg⟩:=z.o.2.1 (by omega);have Q:wr.cell? ⟨g,i,none⟩=some (.string ⟨x.toArray⟩):=aL (an z.o.1 k (by simp)) i _ (by rw[List.getElem?_map,hx];rfl);have p:(xs.take (i+1)).filter (fun x=>decide (x≠s))=(xs.take i).filter (fun x=>decide (x≠s)) ++[x].filter (fun x=>decide (x≠s)):=by rw[gS hx,List.filter_append]
   have h:=ae p;have S:=k.size;clear hx p k;by_cases f:x=s
   ·have A:(x == s)=true:=by simpa using f
    have y:=ae f;clear f;go_wp2;go_roundg (xs.length - (i+1))
    case measure=>rw[b.o.1];omega
    case rel=>exact⟨i+1,d,rfl,by omega,ak (by omega),b.o.2.1,by rw[h.o,y.o,b.o.2.2];simp,by omega,row⟩
   ·have A:(x == s)=false:=by simpa using f
    have y:=ae f;clear f;go_wp2_with (at_builtin;(refine wpList_append_own_at _ rfl _ _ 36 rfl w.heap.size 9 i0 (.string ⟨#[]⟩) 1 16 underlying36 B D E G rfl (by decide) _ _ _ rfl (by exact World.ownsRow.alloc row _) ⟨wr.heap.size,0,none⟩ 1 1 [.string ⟨x.toArray⟩] rfl rfl ?_ (by intro u N;simp at N;subst N;rfl) (by unfold maxLen;omega) (by omega) (by simp;omega) ?_))
    ·intro j u M
     rcases j with _ | j
     all_goals simp at M
     subst M;simp[Addr.add]
    intro v3 w3 H P _ Z;obtain⟨X,Y,rfl⟩:=aE H;have K:Kp (fun _=>False) w w3:=(b.o.2.1.alloc _).gr P (fun r e=>(row.lt r e).1);have I:=ae (An K H);clear K H P Z;go_wp2;go_roundg (xs.length - (i+1))
    case measure=>rw[b.o.1];omega
    case rel=>exact⟨i+1,d ++[x],rfl,by omega,ak (by omega),I.o.1,by rw[h.o,b.o.2.2];simp[y.o],by simp;omega,by rw[List.map_append,List.length_append];exact I.o.2⟩
  ·have n:¬(i:Int) < (xs.length:Int):=by omega
   have l:d=cT s xs:=by
    rw[b.o.2.2,List.take_of_length_le (by omega)];rfl
   have J:=ae (An l row);clear l row k;go_wp2;go_ret;rw[←J.o.1];exact⟨_,rfl,b.o.2.1,J.o.2⟩
end
end Go.Proofs.YtocligpfmfmihaaGreatDoor
