import Derived.Test.YtocligpfmfmihaaGreatDoorRef27G
set_option maxHeartbeats 4000000
set_option maxRecDepth 20000
namespace Go.Proofs.YtocligpfmfmihaaGreatDoor
open Go.Proofs.Tryz
section
open Go Go.RowKit Go.Maps
theorem ug(ks:List Ky)(i:Nat)(k:Ky)(h:ks[i]? =some k)(f:Nat)(hf:f < 4):(ks.flatMap kyC)[i*4+f]? =(kyC k)[f]? :=by
 induction ks generalizing i with
 |nil=>cases h
 |cons a l ih=>
  cases i with
  |zero=>
   simp at h;subst h;rw[List.flatMap_cons,List.getElem?_append_left (by simp[kyC];omega)];simp
  |succ i=>
   rw[List.flatMap_cons,List.getElem?_append_right (by simp[kyC];omega)];have:(i+1)*4+f - (kyC a).length=i*4+f:=by simp[kyC];omega
   rw[this];exact ih i (by simpa using h)
theorem eC{w:World}{B:Nat}{g n c:Nat}{ks:List Ky}(h:w.ownsRow B 35 4 (.slice (some ⟨g,0,none⟩) n c) n (ks.flatMap kyC))(i:Nat)(k:Ky)(hk:ks[i]? =some k):
  w.cell? ⟨g,i*4,none⟩=some (.string ⟨k.id.toArray⟩)∧w.cell? ⟨g,i*4+1,none⟩=some (.string ⟨k.key.toArray⟩)∧w.cell? ⟨g,i*4+2,none⟩=some (.bool k.old)∧w.cell? ⟨g,i*4+3,none⟩=some (.int .i64 k.till):=by
 have a:=h.cells (g:=g) rfl
 have q:∀f u,f < 4→(kyC k)[f]? =some u→w.cell? ⟨g,i*4+f,none⟩=some u:=by
  intro f u b d;have:=a (i*4+f) u (by rw[ug ks i k hk f b];exact d);rw[Addr.add_lit]at this;simpa using this
 exact⟨q 0 _ (by omega) rfl,q 1 _ (by omega) rfl,q 2 _ (by omega) rfl,q 3 _ (by omega) rfl⟩
theorem aJ{w:World}{B:Nat}{e:TypeId}{v:Value}{n:Nat}{xs:List Value}(h:w.ownsRow B e 4 v n xs):∃a c,v=.slice a n c∧(0 < n→∃g,a=some ⟨g,0,none⟩∧g < w.heap.size):=by
 have f:=h;obtain⟨_,⟨rfl,rfl⟩ | ⟨g,b,d,rfl,_⟩⟩:=h
 ·exact⟨_,_,rfl,fun h=>absurd h (by omega)⟩
 ·exact⟨_,_,rfl,fun _=>⟨g,rfl,(f.lt g rfl).2⟩⟩
theorem Ae(ks:List Ky)(h:(ks.map (·.id)).Nodup)(i:Nat)(hi:i < ks.length):∃j k,(bQ (ks.map (·.id)) ks.length)[i]? =some j∧ks[j]? =some k∧((ofL (ks.map fun k=>(k.id,k))).map (·.2))[i]? =some k:=by
 have d:Nod (ks.map fun k=>(k.id,k)):=by
  unfold Nod;rw[List.map_map];exact h
 have b:=jg _ d ks.length (by simp);rw[List.take_of_length_le (by simp),List.map_map,show ((fun x:Bs×Ky=>x.1) ∘ fun k:Ky=>(k.id,k))=fun k=>k.id from rfl]at b;have e:=gM (ks.map (·.id)) ks.length;obtain⟨j,hj⟩:∃j,(bQ (ks.map (·.id)) ks.length)[i]? =some j:=⟨_,List.getElem?_eq_getElem (by omega)⟩;have c:=nr _ _ j (List.mem_of_getElem? hj);refine⟨j,ks[j],hj,List.getElem?_eq_getElem c, ?_⟩;have a:=congrArg (fun l=>l[i]?) b;simp only[List.getElem?_map,hj,Option.map_some,List.getElem?_eq_getElem c]at a;rw[List.getElem?_map]
 cases ho:(ofL (ks.map fun k=>(k.id,k)))[i]? with
 |none=>rw[ho]at a;cases a
 |some q=>
  rw[ho]at a;simp only[Option.map_some,Option.some.injEq]at a;rw[←a];rfl
theorem rF(ks:List Ky)(h:(ks.map (·.id)).Nodup):((ofL (ks.map fun k=>(k.id,k))).map (·.2)).length=ks.length:=by
 have a:Nod (ks.map fun k=>(k.id,k)):=by
  unfold Nod;rw[List.map_map];exact h
 have:=congrArg List.length (jg _ a ks.length (by simp));rw[List.length_map,List.length_map,gM,List.take_of_length_le (by simp)]at this;rw[List.length_map];exact this.symm
theorem cr{w:World}{B B':Nat}{e:TypeId}{sz n:Nat}{v:Value}{xs:List Value}(hb:B≤B')(h:w.ownsRow B' e sz v n xs):w.ownsRow B e sz v n xs:=by
 obtain⟨d,c⟩:=h;refine⟨d, ?_⟩;rcases c with c | ⟨g,a,b,rfl,f,r⟩
 ·exact Or.inl c
 ·exact Or.inr ⟨g,a,b,rfl,Nat.le_trans hb f,r⟩
theorem zg(a b:List Ky):bJ (a ++b) []=bJ a b:=by
 unfold bJ;rw[List.append_nil]
theorem zh{ks:List Ky}(h:¬(ks.map (·.id)).Nodup):bJ ks []=none:=by
 unfold bJ;rw[List.append_nil,if_neg h]
theorem xd{ks:List Ky}(h:(ks.map (·.id)).Nodup):bJ ks []=some ((ofL (ks.map fun k=>(k.id,k))).map (·.2)):=by
 unfold bJ;rw[List.append_nil,if_pos h]
theorem zz{ks:List Ky}(h:(ks.map (·.id)).Nodup){i j:Nat}{a b:Ky}(hi:ks[i]? =some a)(hj:ks[j]? =some b)(hne:i≠j):a.id≠b.id:=by
 intro e;have f:(ks.map (·.id))[i]? =some a.id:=by rw[List.getElem?_map,hi];rfl
 have g:(ks.map (·.id))[j]? =some a.id:=by rw[List.getElem?_map,hj,e];rfl
 obtain⟨k,c⟩:=List.getElem?_eq_some_iff.1 f;obtain⟨l,d⟩:=List.getElem?_eq_some_iff.1 g;exact hne ((List.getElem_inj h).1 (c.trans d.symm))
theorem qp(w:World)(B:Nat)(v:Value)(ks:List Ky)(hrow:w.ownsRow B 35 4 v ks.length (ks.flatMap kyC))(hl:ks.length≤100000):
  Calls prog 83 #[v] w fun e w'=>KsR w (bJ ks []) e w':=by
 obtain⟨i0,hi,am,an,ao⟩:=info_parts jH;obtain⟨i1,hj,ai,aj,al⟩:=info_parts ew;obtain⟨va,vc,rfl,X⟩:=aJ hrow;have HV:=ae (An X hrow);clear X hrow;go_enter func83,ntmps83;go_wp2_with fail
 go_loopg [4,5] ks.length (fun gg a bb wr=>∃(i:Nat),gg=ks.length - i∧i≤ks.length∧bb=.int .i64 (i:Int)∧Kp (fun _=>False) w wr∧((ks.take i).map (·.id)).Nodup∧wr.ownsRow w.heap.size 9 1 a i ((ks.take i).map fun k=>.string ⟨k.id.toArray⟩))
 case atStart=>exact⟨0,rfl,by omega,rfl,Kp.refl _ _,by simp,World.ownsRow_nil _ _ _ _⟩
 case round=>
  obtain⟨i,J,ad,rfl,H,n,c⟩:=hrel;have HG:=ae (An J n);clear J n;by_cases l:i < ks.length
  ·have x:(i:Int) < (ks.length:Int):=by omega
   obtain⟨g,rfl,r⟩:=HV.o.1 (by omega);obtain⟨ki,hki⟩:∃k,ks[i]? =some k:=⟨ks[i],List.getElem?_eq_getElem l⟩;have d:∀j k,ks[j]? =some k→wr.cell? ⟨g,j*4,none⟩=some (.string ⟨k.id.toArray⟩):=fun j k hk=>(H.cell (p:=⟨g,j*4,none⟩) r (by simp)).trans (eC HV.o.2 j k hk).1
   have ci:=d i ki hki;have HC:=ae (An d hki);clear d hki;go_wp2_with fail
   go_loopg [6] i (fun g2 c2 w2=>∃(j:Nat),g2=i - j∧j≤i∧c2=.int .i64 (j:Int)∧(∃m,wr.drewN m=w2)∧∀z k',z < j→ks[z]? =some k'→k'.id≠ki.id)
   case atStart=>exact⟨0,rfl,by omega,rfl,⟨0,rfl⟩,fun _ _ h=>absurd h (by omega)⟩
   case round=>
    obtain⟨j,K,av,rfl,⟨m,rfl⟩,S⟩:=hrel;have H2:=ae (An K S);clear K S;by_cases af:j < i
    ·have R:(j:Int) < (i:Int):=by omega
     obtain⟨kj,hkj⟩:∃k,ks[j]? =some k:=⟨ks[j],List.getElem?_eq_getElem (by omega)⟩;have cj:=HC.o.1 j kj hkj;have HJ:=ae hkj;clear hkj;have aw:(j:Int) < (ks.length:Int):=by omega
     by_cases E:ki.id=kj.id
     ·have y:(ki.id == kj.id)=true:=by simpa using E
      have HN:Hid (bJ ks []=none):=zh (fun h=>zz h HC.o.2 HJ.o (by omega) E);clear E;go_wp2;go_quiet (fail)
      go_wp2;go_ret2
      exact iH HN.o ((H.drewN _).drewN _)
     ·have y:(ki.id == kj.id)=false:=by simpa using E
      have HE:=ae E;clear E;go_wp2;go_quiet (fail)
      go_wp2;go_roundg (i - (j+1))
      case measure=>rw[H2.o.1];omega
      case rel=>
       refine⟨j+1,rfl,by omega,ak (by omega),⟨_,rfl⟩, ?_⟩;intro z k' N f;rcases Nat.lt_or_ge z j with hq | hq
       ·exact H2.o.2 z k' hq f
       ·have:z=j:=by omega
        subst this;rw[HJ.o]at f;injection f with f
        subst f;exact fun e=>HE.o e.symm
    ·have R:¬(j:Int) < (i:Int):=by omega
     have M:j=i:=by omega
     have ab:=ae M;clear M;have s:ks.take (i+1)=ks.take i ++[ki]:=by rw[List.take_succ_eq_append_getElem l,(List.getElem?_eq_some_iff.1 HC.o.2).2]
     have A:((ks.take (i+1)).map (·.id)).Nodup:=by
      rw[s,List.map_append,List.nodup_append];refine⟨HG.o.2,by simp, ?_⟩;intro a ha b hb;obtain⟨k',f,rfl⟩:=List.mem_map.1 ha;obtain rfl:b=ki.id:=by simpa using hb
      obtain⟨z,N,y⟩:=List.mem_iff_getElem.1 f;rw[List.length_take]at N
      have ac:ks[z]? =some k':=by
       rw[List.getElem?_eq_getElem (by omega)];rw[List.getElem_take]at y;rw[y]
      exact H2.o.2 z k' (by rw[ab.o];omega) ac
     have HT:=ae (An s A);clear s A;have ah:(wr.drewN m).ownsRow w.heap.size 9 1 _ i ((ks.take i).map fun k=>.string ⟨k.id.toArray⟩):=c;have ax:=H.size;go_wp2_with (at_builtin;refine wpList_append_own_at _ rfl _ _ 36 rfl w.heap.size 9 i1 (.string ⟨#[]⟩) 1 16 underlying36 hj ai aj al rfl (by decide) _ _ _ rfl (ah.alloc _) ⟨wr.heap.size,0,none⟩ 1 1 [.string ⟨ki.id.toArray⟩] rfl rfl (by exact cell_one_new wr _ _) (by intro u W;simp at W;subst W;rfl) (by unfold maxLen;omega) (by omega) (by simp;omega) ?_)
     intro v' w6 Z y2 _ y3;have K7:Kp (fun _=>False) w w6:=((H.drewN m).alloc _).grown y2 (fun k hk l=>by have:=(c.lt k hk).1;omega);have R7:=ae Z;clear Z y2 y3;go_wp2;go_roundg (ks.length - (i+1))
     case measure=>rw[HG.o.1];omega
     case rel=>
      refine⟨i+1,rfl,by omega,ak (by omega),K7,HT.o.2, ?_⟩;rw[HT.o.1,List.map_append,List.map_take];exact R7.o
  ·have x:¬(i:Int) < (ks.length:Int):=by omega
   have L:i=ks.length:=by omega
   have n:(ks.map (·.id)).Nodup:=by
    have:=HG.o.2;rw[List.take_of_length_le (by omega)]at this;exact this
   rw[List.take_of_length_le (by omega)]at c;have HJ:=ae (xd n);have U:=rF ks n;have V:=Ae ks n;have C:=iU wr (ks.map (·.id)) w.heap.size _ (by rw[List.length_map,←L,List.map_map];exact c) (by simp;omega);generalize hO:(ofL (ks.map fun k=>(k.id,k))).map (·.2)=O at *;have HO:=ae (An C (An U V));clear hO C U V c n;clear L;go_wp2_with fail
   refine HO.o.1.mono ?_;rintro e w1 ⟨v2,rfl,K2,F⟩;rw[List.length_map]at F;obtain⟨oa,oc,rfl⟩:=aE F;have I:=H.trans K2
   have T:∀i,i < ks.length→∃Y,oa=some ⟨Y,0,none⟩∧Y < w1.heap.size:=by
    intro i hi;obtain⟨n',hn'⟩:∃n',ks.length=n'+1:=⟨ks.length - 1,by omega⟩;have r3:=F;rw[hn']at r3;obtain⟨g9,c9,e9⟩:=aK r3;injection e9 with e1
    subst e1;exact⟨g9,rfl,(F.lt g9 rfl).2⟩
   have G:=ae (An T F);clear T F;go_wp2_with fail
   go_loopg [8,9] ks.length (fun gg a bb wr=>∃(i:Nat),gg=ks.length - i∧i≤ks.length∧bb=.int .i64 (i:Int)∧Kp (fun _=>False) w1 wr∧wr.ownsRow w1.heap.size 35 4 a i ((O.take i).flatMap kyC))
   case atStart=>exact⟨0,rfl,by omega,rfl,Kp.refl _ _,World.ownsRow_nil _ _ _ _⟩
   case round=>
    obtain⟨i,J,ad,rfl,K3,q⟩:=hrel;have aa:=ae J;clear J;have t:=I.trans K3;by_cases l:i < ks.length
    ·have x:(i:Int) < (ks.length:Int):=by omega
     obtain⟨g,rfl,r⟩:=HV.o.1 (by omega);obtain⟨Y,rfl,ag⟩:=G.o.1 i l;obtain⟨j,k,P,D,Q⟩:=HO.o.2.2 i l;have co:wr.cell? ⟨Y,i,none⟩=some (.int .i64 (j:Int)):=(K3.cell (p:=⟨Y,i,none⟩) ag (by simp)).trans (aL G.o.2 i _ (by rw[List.getElem?_map,P];rfl));obtain⟨c0,c1,c2,c3⟩:=eC HV.o.2 j k D;have ap:=(t.cell (p:=⟨g,j*4,none⟩) r (by simp)).trans c0;have aq:=(t.cell (p:=⟨g,j*4+1,none⟩) r (by simp)).trans c1;have ar:=(t.cell (p:=⟨g,j*4+2,none⟩) r (by simp)).trans c2;have au:=(t.cell (p:=⟨g,j*4+3,none⟩) r (by simp)).trans c3;have af:(j:Int) < (ks.length:Int):=by have:=(List.getElem?_eq_some_iff.1 D).1;omega
     have s:O.take (i+1)=O.take i ++[k]:=by
      obtain⟨l1,e1⟩:=List.getElem?_eq_some_iff.1 Q;rw[List.take_succ_eq_append_getElem l1,e1]
     have HT:=ae s;clear P D Q s c0 c1 c2 c3;have ay:=K3.size;go_wp2_with (at_builtin;(refine wpList_append_own_at _ rfl _ _ 28 rfl w1.heap.size 35 i0 (.agg #[.string ⟨#[]⟩,.string ⟨#[]⟩,.bool false,.int .i64 0]) 4 48 underlying28 hi am an ao rfl (by decide) _ _ _ rfl (World.ownsRow.alloc q _) ⟨wr.heap.size,0,none⟩ 1 1 (kyC k) rfl rfl ?c1 (by intro u W;simp[kyC]at W;rcases W with rfl | rfl | rfl | rfl <;> rfl) (by unfold maxLen;omega) (by omega) (by simp;omega) ?_))
     case c1=>
      intro j u hj;rcases j with _ | _ | _ | _ | j
      all_goals simp[kyC]at hj
      all_goals subst hj
      all_goals simp[Addr.add]
     intro v' w6 Z y2 _ y3;have K7:Kp (fun _=>False) w1 w6:=(K3.alloc _).grown y2 (fun k hk l=>by have:=(q.lt k hk).1;omega);have R7:=ae Z;clear Z y2 y3;go_wp2;go_roundg (ks.length - (i+1))
     case measure=>rw[aa.o];omega
     case rel=>
      refine⟨i+1,rfl,by omega,ak (by omega),K7, ?_⟩;rw[HT.o,List.flatMap_append];have e9:List.flatMap kyC [k]=kyC k:=by simp
      rw[e9];exact R7.o
    ·have x:¬(i:Int) < (ks.length:Int):=by omega
     go_wp2;go_ret2
     refine⟨t, ?_⟩;rw[HJ.o];refine⟨_,rfl, ?_⟩;have:i=O.length:=by rw[HO.o.2.1];omega
     rw[this,List.take_length]at q;exact cr I.size q
def DcR(w:World)(o:Option (Bs×Int×List Ky))(e:Ending)(w':World):Prop:=
 Kp (fun _=>False) w w'∧match o with
 |none=>∃(s:ByteArray) (u:Int),e=.returned (.tuple #[.agg #[.string s,.int .i64 u,.slice none 0 0],.bool false])
 |some (s,u,ks)=>∃v,e=.returned (.tuple #[.agg #[.string ⟨s.toArray⟩,.int .i64 u,v],.bool true])∧w'.ownsRow w.heap.size 35 4 v ks.length (ks.flatMap kyC)
theorem bH{w:World}{rb:Nat}{a b c d:Value}(tmps:Array Value)(h2:tmps[2]?.getD undef=.pointer (some ⟨rb,0,none⟩))(h3:tmps[3]?.getD undef=d)(hb:w.heap[rb]? =some (.cells #[a,b,c] 30)):
  (results Tryz.f48 tmps).run prog w=.ok (.tuple #[.agg #[a,b,c],d]) w:=by
 have e:w.cell? ⟨rb,0,none⟩=some a:=by simp[World.cell?,hb]
 have f:w.cell? ⟨rb,1,none⟩=some b:=by simp[World.cell?,hb]
 have g:w.cell? ⟨rb,2,none⟩=some c:=by simp[World.cell?,hb]
 simp[results,results48,go_sem,h2,h3,e,f,g]
theorem fE{w:World}{rb:Nat}{a b c d:Value}(tmps:Array Value)(h2:tmps[2]?.getD undef=.pointer (some ⟨rb,0,none⟩))(h3:tmps[3]?.getD undef=d)(hb:w.heap[rb]? =some (.cells #[a,b,c] 30)):
  (results Tryz.f21 tmps).run prog w=.ok (.tuple #[.agg #[a,b,c],d]) w:=by
 have e:w.cell? ⟨rb,0,none⟩=some a:=by simp[World.cell?,hb]
 have f:w.cell? ⟨rb,1,none⟩=some b:=by simp[World.cell?,hb]
 have g:w.cell? ⟨rb,2,none⟩=some c:=by simp[World.cell?,hb]
 simp[results,results21,go_sem,h2,h3,e,f,g]
end
section
open Go.Lib
theorem pZ{α:Type}(k:Bs)(v:α):∀(l:List (Bs×α)),ai k l=none→(aC k v l).Perm ((k,v) :: l)
 | [],_=>List.Perm.refl _
 | (a,x) :: l,h=>by
  have b:a≠k:=by
   intro e;simp[ai,e]at h
  have c:ai k l=none:=by simpa[ai,b] using h
  unfold aC;split
  ·exact List.Perm.refl _
  ·exact ((pZ k v l c).cons (a,x)).trans (List.Perm.swap _ _ _)
theorem dZ{α:Type}(m:List (Bs×α))(h:Nod m):(ofL m).Perm m:=by
 have:∀n (m:List (Bs×α)),m.length=n→Nod m→(ofL m).Perm m:=by
  intro n
  induction n with
  |zero=>intro m c _;obtain rfl:=List.eq_nil_of_length_eq_zero c;exact List.Perm.refl _
  |succ n ih=>
   intro m c i;have b:m≠[]:=by intro e;subst e;simp at c
   obtain⟨l,p,rfl⟩:∃l p,m=l ++[p]:=⟨m.dropLast,m.getLast b,(List.dropLast_concat_getLast b).symm⟩;obtain⟨a,x⟩:=p;obtain⟨d,f⟩:=(eV l a x).1 i;rw[eY];have g:ai a (ofL l)=none:=by rw[eU _ _ d];exact f
   refine (pZ a x _ g).trans ?_;refine ((ih l (by simpa using c) d).cons (a,x)).trans ?_;exact (List.perm_append_singleton (a,x) l).symm
 exact this m.length m rfl h
theorem rG{α:Type}{a b:List (Bs×α)}(h:a.Perm b)(hn:Nod a):ofL a=ofL b:=by
 have c:Nod b:=by
  unfold Nod at *;exact ((h.map _).nodup_iff).1 hn
 have hp:(ofL a).Perm (ofL b):=((dZ a hn).trans h).trans (dZ b c).symm;refine List.Perm.eq_of_pairwise ?_ (fR a) (fR b) hp;intro x y _ _ d e;exact absurd (kC d e) (dz _)
theorem ot{a b c d:List Ky}(h1:a.Perm c)(h2:b.Perm d):bJ a b=bJ c d:=by
 have hp:(a ++b).Perm (c ++d):=h1.append h2;have e:((a ++b).map (·.id)).Nodup↔((c ++d).map (·.id)).Nodup:=(hp.map _).nodup_iff;unfold bJ;by_cases h:((a ++b).map (·.id)).Nodup
 ·rw[if_pos h,if_pos (e.1 h),rG (hp.map _) (by unfold Nod;rw[List.map_map];exact h)]
 ·rw[if_neg h,if_neg (fun q=>h (e.2 q))]
theorem oy{old:Bool}{till:Int}{l m:List (Bs×J)}(h:l.Perm m):(aI old till l=none∧aI old till m=none)∨∃a b,aI old till l=some a∧aI old till m=some b∧a.Perm b:=by
 induction h with
 |nil=>exact Or.inr ⟨[],[],rfl,rfl,List.Perm.refl _⟩
 |cons p h w=>
  obtain⟨k,j⟩:=p;simp only[aI]
  cases dB old till k j with
  |none=>exact Or.inl ⟨rfl,rfl⟩
  |some q=>
   rcases w with⟨g,f⟩ | ⟨a,b,g,f,o⟩
   ·exact Or.inl ⟨by simp[g],by simp[f]⟩
   ·exact Or.inr ⟨q :: a,q :: b,by simp[g],by simp[f],o.cons q⟩
 |swap p q l=>
  obtain⟨k,j⟩:=p;obtain⟨v,u⟩:=q;simp only[aI]
  cases dB old till k j with
  |none=>
   left
   refine⟨?_,rfl⟩;cases dB old till v u <;> rfl
  |some x=>
   cases dB old till v u with
   |none=>exact Or.inl ⟨rfl,rfl⟩
   |some y=>
    cases aI old till l with
    |none=>exact Or.inl ⟨rfl,rfl⟩
    |some r=>exact Or.inr ⟨y :: x :: r,x :: y :: r,rfl,rfl,List.Perm.swap _ _ _⟩
 |trans _ _ s n=>
  rcases s with⟨g,f⟩ | ⟨a,b,g,f,o⟩
  ·rcases n with⟨e,i⟩ | ⟨c,d,e,i,t⟩
   ·exact Or.inl ⟨g,i⟩
   ·rw[f]at e;cases e
  ·rcases n with⟨e,i⟩ | ⟨c,d,e,i,t⟩
   ·rw[f]at e;cases e
   ·rw[f]at e
    cases e
    exact Or.inr ⟨a,d,g,i,o.trans t⟩
end
section
open Go Go.RowKit Go.Maps
theorem ba{w:World}{q:Nat}{a b c:Value}{T:TypeId}(h:w.heap[q]? =some (.cells #[a,b,c] T)):w.cell? ⟨q,0,none⟩=some a∧w.cell? ⟨q,1,none⟩=some b∧w.cell? ⟨q,2,none⟩=some c ∧
  w.frozen? ⟨q,0,none⟩=false∧w.frozen? ⟨q,1,none⟩=false∧w.frozen? ⟨q,2,none⟩=false∧q < w.heap.size:=by
 refine⟨?_, ?_, ?_, ?_, ?_, ?_,ag h⟩ <;> simp[World.cell?,World.frozen?,h]
theorem cM{w:World}{q:Nat}{x y z a b c:Value}{T:TypeId}(h:w.heap[q]? =some (.cells #[x,y,z] T)):(((w.setCell ⟨q,0,none⟩ a).setCell ⟨q,1,none⟩ b).setCell ⟨q,2,none⟩ c).heap[q]? =some (.cells #[a,b,c] T):=by simp[World.setCell,Array.getElem?_modify,h]
theorem kp3{w w6:World}{a b c:Value}(h:Kp (fun _=>False) w w6):Kp (fun _=>False) w (((w6.setCell ⟨w.heap.size,0,none⟩ a).setCell ⟨w.heap.size,1,none⟩ b).setCell ⟨w.heap.size,2,none⟩ c):=
 Kp.setCell (p:=⟨w.heap.size,2,none⟩) (Kp.setCell (p:=⟨w.heap.size,1,none⟩) (Kp.setCell (p:=⟨w.heap.size,0,none⟩) h (fun q=>absurd q (Nat.lt_irrefl _)) _) (fun q=>absurd q (Nat.lt_irrefl _)) _) (fun q=>absurd q (Nat.lt_irrefl _)) _
theorem ie{w w6:World}{o:Option (Bs×Int×List Ky)}{s:ByteArray}{u:Int}(h:Kp (fun _=>False) w w6)(ho:o=none):DcR w o (.returned (.tuple #[.agg #[.string s,.int .i64 u,.slice none 0 0],.bool false])) (((w6.setCell ⟨w.heap.size,0,none⟩ (.string s)).setCell ⟨w.heap.size,1,none⟩ (.int .i64 u)).setCell ⟨w.heap.size,2,none⟩ (.slice none 0 0)):=by
 subst ho;exact⟨kp3 h,_,_,rfl⟩
theorem wo{w w6:World}{o:Option (Bs×Int×List Ky)}{s:ByteArray}{u:Int}(h:Kp (fun _=>False) w w6)(ho:o=none):DcR w o (.returned (.tuple #[.agg #[.string s,.int .i64 u,.slice none 0 0],.bool false])) (((w6.setCell ⟨w.heap.size,0,none⟩ (.string s)).setCell ⟨w.heap.size,1,none⟩ (.int .i64 u)).setCell ⟨w.heap.size,2,none⟩ (.slice none 0 0)).drew:=by
 subst ho;exact⟨(kp3 h).drew,_,_,rfl⟩
theorem ws{w w6:World}{B:Nat}{o:Option (Bs×Int×List Ky)}{s:Bs}{u:Int}{ks:List Ky}{v:Value}(h:Kp (fun _=>False) w w6)(hB:w.heap.size < B)(row:w6.ownsRow B 35 4 v ks.length (ks.flatMap kyC))(ho:o=some (s,u,ks)):
  DcR w o (.returned (.tuple #[.agg #[.string ⟨s.toArray⟩,.int .i64 u,v],.bool true])) (((w6.setCell ⟨w.heap.size,0,none⟩ (.string ⟨s.toArray⟩)).setCell ⟨w.heap.size,1,none⟩ (.int .i64 u)).setCell ⟨w.heap.size,2,none⟩ v).drew:=by
 subst ho;refine⟨(kp3 h).drew,v,rfl, ?_⟩;refine cr (Nat.le_of_lt hB) (ap row fun k hk=> ?_);have a:=(row.lt k hk).1;show (((w6.setCell ⟨w.heap.size,0,none⟩ (.string ⟨s.toArray⟩)).setCell ⟨w.heap.size,1,none⟩ (.int .i64 u)).setCell ⟨w.heap.size,2,none⟩ v).heap[k]? =_
 rw[af (by show k≠w.heap.size;omega),af (by show k≠w.heap.size;omega),af (by show k≠w.heap.size;omega)]
theorem tH{o:Option J}{s:Bs}(h:bs o=some s):o=some (.str s):=by
 unfold bs at h;simp only[Option.bind_eq_some_iff]at h;obtain⟨t,a,b⟩:=h;split at b
 ·injection b with b
  subst b;unfold dS at a;split at a
  ·injection a with a
   subst a;rfl
  ·cases a
 ·cases b
theorem vr{o:Option J}{n:Int}(h:cC o=some n):o=some (.num n):=by
 unfold cC at h;split at h
 ·split at h
  ·injection h with h
   subst h;rfl
  ·cases h
 ·cases h
theorem xQ(w:World)(b:Nat)(l:List (Bs×J))(h:PoJ w (some ⟨b,0,none⟩) (some (.obj l))):
  Calls prog 48 #[.pointer (some ⟨b,0,none⟩)] w fun e w'=>DcR w (cw l) e w':=by
 have K0:Kp (fun _=>False) w ((w.alloc (.cells #[.string ⟨#[]⟩,.int .i64 0,.slice none 0 0] 30)).alloc (.cells #[.string ⟨#[]⟩,.int .i64 0,.slice none 0 0] 30)):=((Kp.refl _ _).alloc _).alloc _;obtain⟨I2,I4⟩:=gE w (.cells #[.string ⟨#[]⟩,.int .i64 0,.slice none 0 0] 30) (.cells #[.string ⟨#[]⟩,.int .i64 0,.slice none 0 0] 30);have P0:=h.kp K0;clear h;go_enter func48,ntmps48;go_wp2_with fail
 generalize ((w.alloc (.cells #[.string ⟨#[]⟩,.int .i64 0,.slice none 0 0] 30)).alloc (.cells #[.string ⟨#[]⟩,.int .i64 0,.slice none 0 0] 30))=w0 at *;refine (fT w0 _ _ P0 lB).mono ?_;rintro e w1 ⟨ps,rfl,rfl,PS⟩;go_wp2_with fail
 refine (fT w1 _ _ P0 lC).mono ?_;rintro e w2 ⟨pu,rfl,rfl,PU⟩;go_wp2_with fail
 refine (fT w2 _ _ P0 iG).mono ?_;rintro e w3 ⟨pv,rfl,rfl,PV⟩;go_wp2_with fail
 refine (fT w3 _ _ P0 gY).mono ?_;rintro e w4 ⟨pq,rfl,rfl,PQ⟩;simp only[bP]at PS PU PV PQ;have D:Hid (cw l=(bs (ai lB l)).bind fun s=>(cC (ai lC l)).bind fun u=>match ai iG l with | some (.obj m)=>if 1≤m.length∧m.length≤4 then (aI false u m).bind fun a=>(fW l).bind fun b=>(bJ a b).map fun ks=>(s,u,ks) else none | _=>none):=ae rfl;go_wp2_with fail
 refine (jR w4 _ _ PS).mono ?_;rintro e w5 ⟨rfl,rfl⟩;go_wp2_with fail
 refine (ny w5 _ _ PU).mono ?_;rintro e w6 ⟨rfl,rfl⟩;obtain⟨r0,r1,r2,A,B,C,z⟩:=ba I2;obtain⟨n0,n1,n2,L,M,N,K⟩:=ba I4
 cases hs:bs (ai lB l) with
 |none=>
  have n:Hid (cw l=none):=by show _=_;rw[D.o,hs];rfl
  simp only[Option.isSome_none];go_wp2;exact bodyPost_ret (bH _ rfl rfl (cM I2)) rfl (ie K0 n.o)
 |some sn=>
  simp only[Option.isSome_some]
  cases hu:cC (ai lC l) with
  |none=>
   have n:Hid (cw l=none):=by show _=_;rw[D.o,hs,hu];rfl
   simp only[Option.isSome_none];go_wp2;exact bodyPost_ret (bH _ rfl rfl (cM I2)) rfl (ie K0 n.o)
  |some u=>
   simp only[Option.isSome_some];rw[hs,hu]at D;simp only[Option.bind_some]at D;rw[tH hs]at PS;rw[vr hu]at PU;rcases PS with⟨_,e⟩ | ⟨sb,js,rfl,e,_,br⟩
   ·cases e
   cases e
   rcases PU with⟨_,e⟩ | ⟨ub,ju,rfl,e,_,bt⟩
   ·cases e
   cases e
   clear hs hu;rcases PV with⟨rfl,hv⟩ | ⟨vb,jv,rfl,hv,aA,az⟩
   ·have n:Hid (cw l=none):=by show _=_;rw[D.o,hv]
    go_wp2;exact bodyPost_ret (bH _ rfl rfl (cM I2)) rfl (ie K0 n.o)
   ·by_cases av:aP jv=123
    ·obtain⟨m,rfl⟩:∃m,jv=.obj m:=by
      cases jv with
      |obj m=>exact⟨m,rfl⟩
      |bool b=>cases b <;> simp[aP]at av
      |_=>simp[aP]at av
     obtain⟨x,KK,LL,hb,W,I,ar,bh,rfl⟩:=az.parts;have bF:=iu ar aA;have bc:=mg _ ar;rw[List.length_map]at bc;rw[hv]at D;simp only[bc]at D;obtain⟨la,lc,rfl⟩:=aE I;obtain⟨b0,b1,b2,b3,b4,R,S,T,U,V,Y⟩:=aw hb;by_cases h1:x.length < 1
     ·have bo:(x.length:Int) < 1:=by omega
      have n:Hid (cw l=none):=by show _=_;rw[D.o,if_neg (by omega)]
      go_wp2;exact bodyPost_ret (bH _ rfl rfl (cM I2)) rfl (ie K0 n.o)
     ·have bo:¬(x.length:Int) < 1:=by omega
      by_cases h4:4 < x.length
      ·have bp:(4:Int) < (x.length:Int):=by omega
       have n:Hid (cw l=none):=by show _=_;rw[D.o,if_neg (by omega)]
       go_wp2;exact bodyPost_ret (bH _ rfl rfl (cM I2)) rfl (ie K0 n.o)
      ·have bp:¬(4:Int) < (x.length:Int):=by omega
       rw[if_pos (by omega)]at D;have aj:=oy (old:=false) (till:=u) (dZ _ ar)
       have ab:∀a j c,(a,j,c) ∈ x→(cJ j).length≤600∧RR w6 (fun c=>c < w6.heap.size) j c:=by
        intro a j c hm;refine⟨?_,bh a j c hm⟩;have aO:(a,j) ∈ ofL (x.map fun p=>(p.1,p.2.1)):=(dZ _ ar).mem_iff.2 (List.mem_map.2 ⟨_,hm,rfl⟩);have:=(eT ((ofL (x.map fun p=>(p.1,p.2.1))).map aD) 0).2 (aD (a,j)) (List.mem_map.2 ⟨_,aO,rfl⟩);rw[c7]at aA;simp only[aD,List.length_append,List.length_cons,List.length_nil]at this aA;omega
       have a8:=uK w6 vb x KK _ hb W I ab (by omega) false u;have HK:=ae (An a8 aj);clear a8 aj ab az bh W I hb aA hv
       cases br with
       |str sn hFs hsb=>
        cases bt with
        |num u hun hFu hub=>
         obtain⟨s0,s1,s2,s3,s4,aS,aT,aU,aV,aW,al⟩:=aw hsb;obtain⟨u0,u1,u2,u3,u4,aX,aY,aZ,a0,a5,ao⟩:=aw hub;go_wp2_with fail
         refine HK.o.1.mono ?_;rintro e w7 ⟨K7,aa⟩;have aq:=K0.trans K7;have r:=(K7.block _ (ag I2) (by simp)).trans I2;have aL:=(K7.block _ (ag I4) (by simp)).trans I4;have aC:=vkp hsb K7;have aF:=vkp hub K7;have bl:=PQ.kp K7;clear s0 s1 s2 s3 s4 aS aT aU aV aW al u0 u1 u2 u3 u4 aX aY aZ a0 a5 ao b0 b1 b2 b3 b4 R S T U V Y r0 r1 r2 A B C z n0 n1 n2 L M N K PQ;obtain⟨r0,r1,r2,A,B,C,z⟩:=ba r;obtain⟨n0,n1,n2,L,M,N,K⟩:=ba aL
         cases hkf:aI false u (x.map fun p=>(p.1,p.2.1)) with
         |none=>
          rw[hkf]at aa;have a9:e=.returned (.tuple #[.slice none 0 0,.bool false]):=aa;subst a9
          have n:Hid (cw l=none):=by
           show _=_
           rw[D.o];rcases HK.o.2 with⟨h1,_⟩ | ⟨a,b,_,t,_⟩
           ·rw[h1];rfl
           ·rw[hkf]at t;cases t
          clear aa hkf;go_wp2;exact bodyPost_ret (bH _ rfl rfl (cM r)) rfl (ie aq n.o)
         |some ks1=>
          rw[hkf]at aa;obtain⟨v1,rfl,ap⟩:=aa;obtain⟨a1,c1,rfl,_⟩:=aJ ap
          have bA:ks1.length≤4:=by
           have:=congrArg List.length (de hkf).1;simp only[List.length_map]at this;omega
          rcases bl with⟨rfl,hq⟩ | ⟨qb,jq,rfl,hq,ax,ay⟩
          ·have f:fW l=some []:=by unfold fW;rw[hq]
           have HS:=ae (qp w7 _ _ ks1 ap (by omega))
           have HF:Hid (cw l=(bJ ks1 []).map fun ks=>(sn,u,ks)):=by
            show _=_
            rw[D.o,f];rcases HK.o.2 with⟨_,t⟩ | ⟨a,b,h1,t,h3⟩
            ·rw[hkf]at t;cases t
            ·rw[h1]
             rw[hkf]at t;cases t
             simp only[Option.bind_some];rw[ot h3 (List.Perm.refl [])]
           clear hq f hkf;go_wp2_with fail
           refine HS.o.mono ?_;rintro e w8 ⟨P,hr⟩;have Q:=aq.trans P;have E:=(P.block _ (ag r) (by simp)).trans r;have ak:=vkp aC P;have am:=vkp aF P;obtain⟨s0,s1,s2,s3,s4,aS,aT,aU,aV,aW,al⟩:=aw ak;obtain⟨u0,u1,u2,u3,u4,aX,aY,aZ,a0,a5,ao⟩:=aw am;clear r0 r1 r2 A B C z n0 n1 n2 L M N K;obtain⟨r0,r1,r2,A,B,C,z⟩:=ba E
           cases hjf:bJ ks1 [] with
           |none=>
            rw[hjf]at hr;have aR:e=.returned (.tuple #[.slice none 0 0,.bool false]):=hr;subst aR;have n:Hid (cw l=none):=by show _=_;rw[HF.o,hjf];rfl
            clear hr hjf;go_wp2_with fail
            go_region
            go_wp2;exact bodyPost_ret (bH _ rfl rfl (by exact cM E)) rfl (wo Q n.o)
           |some O=>
            rw[hjf]at hr;obtain⟨v2,rfl,i⟩:=hr;obtain⟨a2,c2,rfl,_⟩:=aJ i;have n:Hid (cw l=some (sn,u,O)):=by show _=_;rw[HF.o,hjf];rfl
            have bu:w.heap.size < w7.heap.size:=ag r;clear hjf;go_wp2_with fail
            go_region
            go_wp2;exact bodyPost_ret (bH _ rfl rfl (by exact cM E)) rfl (ws Q bu i n.o)
          ·by_cases Z:aP jq=123
           ·obtain⟨mq,rfl⟩:∃m,jq=.obj m:=by
             cases jq with
             |obj m=>exact⟨m,rfl⟩
             |bool b=>cases b <;> simp[aP]at Z
             |_=>simp[aP]at Z
            clear Z;obtain⟨y,KK,LL,hb,W,I,aM,bi,rfl⟩:=ay.parts;have bG:=iu aM ax;obtain⟨b0,b1,b2,b3,b4,R,S,T,U,V,Y⟩:=aw hb
            have ab:∀a j c,(a,j,c) ∈ y→(cJ j).length≤600∧RR w7 (fun c=>c < w7.heap.size) j c:=by
             intro a j c hm;refine⟨?_,bi a j c hm⟩;have aO:(a,j) ∈ ofL (y.map fun p=>(p.1,p.2.1)):=(dZ _ aM).mem_iff.2 (List.mem_map.2 ⟨_,hm,rfl⟩);have:=(eT ((ofL (y.map fun p=>(p.1,p.2.1))).map aD) 0).2 (aD (a,j)) (List.mem_map.2 ⟨_,aO,rfl⟩);rw[c7]at ax;simp only[aD,List.length_append,List.length_cons,List.length_nil]at this ax;omega
            have HQ:=ae (An (uK w7 qb y KK LL hb W I ab (by omega) true 0) (oy (old:=true) (till:=0) (dZ _ aM)));have f:fW l=aI true 0 (ofL (y.map fun p=>(p.1,p.2.1))):=by unfold fW;rw[hq]
            have H:=ae (An f hkf);clear f hq ax ay bi W I hb ab hkf;go_wp2_with fail
            refine HQ.o.1.mono ?_;rintro e w8 ⟨P,v⟩;have Q:=aq.trans P;have E:=(P.block _ (ag r) (by simp)).trans r;have bj:=(P.block _ (ag aL) (by simp)).trans aL;have ak:=vkp aC P;have am:=vkp aF P;have G:=an ap P (by simp);clear r0 r1 r2 A B C z n0 n1 n2 L M N K b0 b1 b2 b3 b4 R S T U V Y;obtain⟨r0,r1,r2,A,B,C,z⟩:=ba E;obtain⟨n0,n1,n2,L,M,N,K⟩:=ba bj
            cases hkf2:aI true 0 (y.map fun p=>(p.1,p.2.1)) with
            |none=>
             rw[hkf2]at v;have aN:e=.returned (.tuple #[.slice none 0 0,.bool false]):=v;subst aN
             have n:Hid (cw l=none):=by
              show _=_
              rw[D.o,H.o.1];rcases HQ.o.2 with⟨h1,_⟩ | ⟨a,b,_,t,_⟩
              ·rw[h1]
               cases aI false u (ofL (x.map fun p=>(p.1,p.2.1))) <;> rfl
              ·rw[hkf2]at t;cases t
             clear v hkf2;go_wp2;exact bodyPost_ret (bH _ rfl rfl (cM E)) rfl (ie Q n.o)
            |some ks2=>
             rw[hkf2]at v;obtain⟨v2,rfl,i⟩:=v
             have bB:ks2.length≤600:=by
              have:=congrArg List.length (de hkf2).1;simp only[List.length_map]at this;omega
             have HF:Hid (cw l=(bJ (ks1 ++ks2) []).map fun ks=>(sn,u,ks)):=by
              show _=_
              rw[D.o,H.o.1,zg];rcases HK.o.2 with⟨_,t⟩ | ⟨a,b,h1,t,h3⟩
              ·rw[H.o.2]at t;cases t
              ·rw[h1]
               rw[H.o.2]at t;cases t
               rcases HQ.o.2 with⟨_,h5⟩ | ⟨c,d,h4,h5,h6⟩
               ·rw[hkf2]at h5;cases h5
               ·rw[h4]
                rw[hkf2]at h5;cases h5
                simp only[Option.bind_some];rw[ot h3 h6]
             obtain⟨a2,c2,rfl,_⟩:=aJ i
             have af:a2=none→ks2.length=0∧c2=0:=by
              rintro rfl;rcases i.2 with⟨F,e2⟩ | ⟨g,bm,bn,F,_⟩
              ·injection F with _ _ e3
               exact⟨e2,e3⟩
              ·injection F with F;cases F
             have ac:∀ad,a2=some ad→∀j q,(ks2.flatMap kyC)[j]? =some q→w8.cell? (ad.add j)=some q:=by
              rintro ad rfl j q hq;rcases id i.2 with⟨F,e2⟩ | ⟨g,bm,bn,F,_⟩
              ·injection F with F;cases F
              ·injection F with F _ _
               injection F with F
               subst F;exact i.cells (g:=g) rfl j q hq
             have aB:∀q ∈ ks2.flatMap kyC,q.oneCell'=true:=by
              intro q hq;obtain⟨k,_,hk⟩:=List.mem_flatMap.1 hq;simp[kyC]at hk;rcases hk with rfl | rfl | rfl | rfl <;> rfl
             have bD:=K7.size;have bE:=P.size;have bC:=K0.size;obtain⟨i0,hi,bw,bx,bz⟩:=info_parts jH;have HW:=ae (An af (An ac aB));clear hkf2 af ac aB;go_wp2_with (at_builtin;(refine aQ _ rfl _ _ 28 rfl w6.heap.size 35 i0 (.agg #[.string ⟨#[]⟩,.string ⟨#[]⟩,.bool false,.int .i64 0]) 4 48 underlying28 hi bw bx bz rfl (by decide) _ _ _ rfl G a2 ks2.length c2 (ks2.flatMap kyC) rfl (jM ks2) HW.o.1 HW.o.2.1 HW.o.2.2 (by unfold maxLen;omega) (by omega) (by omega) ?_))
             intro v3 w9 y1 y2 y3;have ah:∀k,(Value.slice a1 ks1.length c1).ownBlock=some k→w6.heap.size≤k:=fun k hk=>(G.lt k hk).1
             have bk:Kp (fun _=>False) w w9:=Q.grown y2 (fun k hk hlt=>by have:=ah k hk;omega);have au:∀k,k < w6.heap.size→w9.heap[k]? =w8.heap[k]? :=fun k hk=>y2.block k (by omega) (fun e=>by have:=ah k e.symm;omega)
             have aH:=(au _ (ag I2)).trans E;have bd:=(au _ (ag hsb)).trans ak;have bf:=(au _ (ag hub)).trans am
             have a6:w9.ownsRow w6.heap.size 35 4 v3 (ks1 ++ks2).length ((ks1 ++ks2).flatMap kyC):=by
              rw[List.length_append,List.flatMap_append];exact y1
             obtain⟨a3,c3,rfl,_⟩:=aJ a6;have HS:=ae (qp w9 _ _ (ks1 ++ks2) a6 (by rw[List.length_append];omega));clear y1 y2 y3 a6 r0 r1 r2 A B C z n0 n1 n2 L M N K ah au G i HW;have bb:(ks1 ++ks2).length=ks1.length+ks2.length:=List.length_append;rw[bb]at HS;clear bb;go_wp2_with fail
             refine HS.o.mono ?_;rintro e wA ⟨KA,hr⟩;have a7:=bk.trans KA;have aK:=(KA.block _ (ag aH) (by simp)).trans aH;have be:=vkp bd KA;have bg:=vkp bf KA;obtain⟨s0,s1,s2,s3,s4,aS,aT,aU,aV,aW,al⟩:=aw be;obtain⟨u0,u1,u2,u3,u4,aX,aY,aZ,a0,a5,ao⟩:=aw bg;obtain⟨r0,r1,r2,A,B,C,z⟩:=ba aK
             cases hjf:bJ (ks1 ++ks2) [] with
             |none=>
              rw[hjf]at hr;have aR:e=.returned (.tuple #[.slice none 0 0,.bool false]):=hr;subst aR;have n:Hid (cw l=none):=by show _=_;rw[HF.o,hjf];rfl
              clear hr hjf;go_wp2_with fail
              go_region
              go_wp2;exact bodyPost_ret (bH _ rfl rfl (by exact cM aK)) rfl (wo a7 n.o)
             |some O=>
              rw[hjf]at hr;obtain⟨v4,rfl,aG⟩:=hr;obtain⟨a4,c4,rfl,_⟩:=aJ aG;have n:Hid (cw l=some (sn,u,O)):=by show _=_;rw[HF.o,hjf];rfl
              have bv:w.heap.size < w9.heap.size:=ag aH;clear hjf;go_wp2_with fail
              go_region
              go_wp2;exact bodyPost_ret (bH _ rfl rfl (by exact cM aK)) rfl (ws a7 bv aG n.o)
           ·obtain⟨nn,tt,K2,L2,X⟩:=ay.kind
            obtain⟨b0,b1,b2,b3,b4,R,S,T,U,V,Y⟩:=aw X;have bq:(((aP jq:Nat):Int) != 123)=true:=by simp;omega
            have f:fW l=none:=by
             unfold fW;rw[hq]
             cases jq with
             |obj m=>exact absurd rfl Z
             |_=>rfl
            have n:Hid (cw l=none):=by
             show _=_
             rw[D.o,f];cases aI false u (ofL (x.map fun p=>(p.1,p.2.1))) <;> rfl
            clear ay X Z hq f hkf;generalize aP jq=kd at *;go_wp2;exact bodyPost_ret (bH _ rfl rfl (cM r)) rfl (ie aq n.o)
    ·obtain⟨nn,tt,K2,L2,X⟩:=az.kind
     obtain⟨b0,b1,b2,b3,b4,R,S,T,U,V,Y⟩:=aw X;have bq:(((aP jv:Nat):Int) != 123)=true:=by simp;omega
     have n:Hid (cw l=none):=by
      show _=_
      rw[D.o,hv]
      cases jv with
      |obj m=>exact absurd rfl av
      |_=>rfl
     clear az X av hv;generalize aP jv=kd at *;go_wp2;exact bodyPost_ret (bH _ rfl rfl (cM I2)) rfl (ie K0 n.o)
end
end Go.Proofs.YtocligpfmfmihaaGreatDoor
