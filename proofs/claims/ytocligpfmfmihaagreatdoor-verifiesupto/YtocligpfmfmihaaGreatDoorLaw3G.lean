import Derived.Test.YtocligpfmfmihaaGreatDoorPn11G
namespace Go.Proofs.YtocligpfmfmihaaGreatDoor
open Go.Proofs.Tryz
section
open Go Go.RowKit Go.Maps
attribute [local go_sem] Oper.semAt_some
structure OpR where
 kind:Int
 two:Bool
 s:Bs
 t:Bs
 now:Int
 rp:Option Addr
 rn:Nat
 rc:Nat
 li:Option Addr
 ln:Nat
 lc:Nat
def opC(o:OpR):List Value:=[.int .i64 o.kind,.bool o.two,.string ⟨o.s.toArray⟩,.string ⟨o.t.toArray⟩,.int .i64 o.now,.slice o.rp o.rn o.rc,.slice o.li o.ln o.lc]
theorem PR.cell{w:World}{F:Nat→Prop}{pb:Nat}{nm id ky:Bs}{srcs:List Bs}{so:Value}{st:Ldg}{c:Nat}(h:PR w F pb nm id ky srcs so st c):∃a,w.cell? ⟨pb,0,none⟩=some (.pointer (some ⟨a,0,none⟩)):=by
 obtain⟨d,e,a,f,b,_⟩:=h;exact⟨a,by simp[World.cell?,b]⟩
theorem Dv(ky:Bs):(⟨ky.toArray⟩ ++⟨#[50]⟩:ByteArray)=⟨(ky ++[50]).toArray⟩:=by
 apply ByteArray.ext;simp
end
section
open Go Go.RowKit Go.ChangeShapes Go.WideShapes
theorem yL{H:Type}(d:DataW H):1≤Rows.uptoBulk d:=by
 cases d with
 |lit l=>cases l <;> simp[Rows.uptoBulk]
 |_=>simp[Rows.uptoBulk]
theorem mP{H:Type}:∀l:List (DataW H),l.length≤Rows.uptoBulkAll l
 | []=>by simp[Rows.uptoBulkAll]
 |d :: r=>by
  have:=yL d;have:=mP r;simp only[Rows.uptoBulkAll,List.length_cons];omega
theorem qL{H:Type}{d:DataW H}:∀ {l:List (DataW H)},d ∈ l→Rows.uptoBulk d≤Rows.uptoBulkAll l
 | [],h=>by cases h
 |e :: r,h=>by
  simp only[Rows.uptoBulkAll];rcases List.mem_cons.1 h with rfl | h
  ·omega
  ·have:=qL h
   omega
theorem AB{α:Type}{l:List α}(h:l.length=7):∃a b c d e f g,l=[a,b,c,d,e,f,g]:=by
 match l,h with
 | [a,b,c,d,e,f,g],_=>exact⟨a,b,c,d,e,f,g,rfl⟩
theorem kW{w:World}{a:Addr}{v:Value}(h:w.cell? a=some v):a.spot=none:=by
 unfold World.cell? at h;split at h
 ·split at h
  ·cases h
  ·rename_i hn
   simpa using hn
 ·cases h
section
variable{H:Type}{enc:TypeId×Value→H}{W:World}{fuel:Nat}{cs:List Value}{x:DataW H×List MemPlace}
theorem zE{t e:TypeId}(ht:prog.underlying t=some (.slice e))(h:DataW.trod enc prog W 0 (fun _=>true) true fuel t cs=some x):∃a len b,cs=[.slice a len b]∧len+1≤Rows.uptoBulk x.1:=by
 rcases DataW.trod_slice ht h with⟨rfl,rfl⟩ | ⟨a,len,b,c,ah,n,_,rfl,rfl,_,_,_,d,_⟩
 ·exact⟨none,0,0,rfl,by simp[Rows.uptoBulk]⟩
 ·refine⟨some a,len,b,rfl, ?_⟩
  have:=mP (c.map (·.1));simp only[Rows.uptoBulk];rw[List.length_map]at this;omega
theorem xA(h:DataW.trod enc prog W 0 (fun _=>true) true fuel 36 cs=some x):
  ∃(xs:List Bs) (va:Option Addr) (vc:Nat),cs=[.slice va xs.length vc]∧(va=none→xs.length=0∧vc=0) ∧
   (∀d,va=some d→∀j u,(xs.map fun s=>Value.string ⟨s.toArray⟩)[j]? =some u→W.cell? (d.add j)=some u)∧xs.length≤Rows.uptoBulk x.1:=by
 rcases open_strings underlying36 underlying9 (by kernel_rfl) h with⟨rfl,rfl⟩ | ⟨a,len,e,ss,rfl,_,m,_,i,rfl,c,_⟩
 ·exact⟨[],none,0,rfl,fun _=>⟨rfl,rfl⟩,fun _ h=>(by cases h),by simp⟩
 rw[if_pos rfl]at i;have b:((ss.take len).map fun s=>s.data.toList).length=len:=by simp;omega
 refine⟨(ss.take len).map fun s=>s.data.toList,some a,e,by rw[b],fun h=>(by cases h), ?_, ?_⟩
 ·rintro d h j u f
  obtain rfl:=Option.some.inj h
  have g:j < len:=by
   have:=(List.getElem?_eq_some_iff.1 f).1;rwa[List.length_map,b]at this
  rw[c j (by omega),←f];rw[List.getElem?_map,List.getElem?_map,List.getElem?_take_of_lt g,List.getElem?_eq_getElem (by omega)];simp[List.getD,List.getElem?_eq_getElem (show j < ss.length by omega)]
 ·rw[b]
  have k:=mP (strs (H:=H) (ss.take len))
  have l:(strs (H:=H) (ss.take len)).length=len:=by
   simp only[strs,List.length_map,List.length_take];omega
  simp only[Rows.uptoBulk];omega
end
end
section
open Go Go.RowKit Go.Maps Go.WideMaps Go.MuLone
attribute [local go_sem] Oper.semAt_some
def PrS(w:World)(F:Nat→Prop)(pb:Nat)(nm id ky:Bs)(srcs:List Bs)(so:Value)(st':Ldg)(c:Nat)(w':World):Prop:=
 ∃(F':Nat→Prop),Kp F w w'∧(∀k,F' k→F k∨w.heap.size≤k)∧PR w' F' pb nm id ky srcs so st' c
theorem nv{w w':World}{F:Nat→Prop}{pb:Nat}{nm id ky:Bs}{srcs:List Bs}{so:Value}{st:Ldg}{c c':Nat}(h:PR w F pb nm id ky srcs so st c)(K:Kp (fun _=>False) w w')(hc:c≤c'):PrS w F pb nm id ky srcs so st c' w':=
 ⟨F,K.mono (fun _ _ h=>h.elim),fun _ h=>Or.inl h,h.frame K.size (fun k hf=>K.block k (h.lt k hf) (by simp)) hc⟩
theorem qj{w w1 w2 w3:World}{F Fn Fr:Nat→Prop}{pb nb rb:Nat}{nm id ky:Bs}{srcs:List Bs}{so:Value}{st':Ldg}{c:Nat}(hp:w.heap[pb]? =some (.cells #[.pointer (some ⟨nb,0,none⟩),.pointer (some ⟨rb,0,none⟩)] 90))(h4:∀k,Fn k→F k∧¬Fr k∧k≠pb)(h5:∀k,Fr k→F k∧k≠pb)(h6:F pb)(h7:∀k,F k→k < w.heap.size)(K1:Kp (fun _=>False) w w1)(hn:PnR w1 Fn nb nm id ky srcs st' c w2)(hr:RnR w2 Fr rb nm id ky so st' c w3):PrS w F pb nm id ky srcs so st' c w3:=by
 obtain⟨g,Kn,d,l⟩:=hn
 have j:∀k,g k→k < w2.heap.size:=by
  obtain⟨v,x,u,h⟩:=l;exact h.lt
 obtain⟨o,m,f,p,q⟩:=hr;have y:=K1.size;have z:=Kn.size;have t:=m.size;refine⟨fun k=>(F k∨w.heap.size≤k)∧k < w3.heap.size, ?_,fun _ h=>h.1,g,o,nb,rb, ?_, ?_,q, ?_, ?_, ?_,fun _ h=>h.2⟩
 ·exact ((K1.mono (T:=F) (fun _ _ h=>h.elim)).and Kn (fun i _ h=>(h4 i h).1)).and m (fun i _ h=>(h5 i h).1)
 ·have n:=h7 pb h6
  rw[m.block pb (by omega) (fun h=>(h5 pb h).2 rfl),Kn.block pb (by omega) (fun h=>(h4 pb h).2.2 rfl),K1.block pb n (by simp)];exact hp
 ·refine l.frame t (fun k a=>m.block k (j k a) (fun b=> ?_))
  rcases d k a with h | h
  ·exact (h4 k h).2.1 b
  ·have:=h7 k (h5 k b).1
   omega
 ·intro k a
  have s:=j k a;refine⟨⟨(d k a).imp (fun h=>(h4 k h).1) (fun h=>by omega),by omega⟩,fun b=> ?_,fun e=> ?_⟩
  ·rcases f k b with h | h
   ·rcases d k a with r | r
    ·exact (h4 k r).2.1 h
    ·have:=h7 k (h5 k h).1
     omega
   ·omega
  ·subst e
   have n:=h7 _ h6;rcases d _ a with h | h
   ·exact (h4 _ h).2.2 rfl
   ·omega
 ·intro k a
  refine⟨⟨(f k a).imp (fun h=>(h5 k h).1) (fun h=>by omega),p k a⟩,fun e=> ?_⟩;subst e;have n:=h7 _ h6;rcases f _ a with h | h
  ·exact (h5 _ h).2 rfl
  ·omega
 ·have n:=h7 pb h6
  exact⟨Or.inl h6,by omega⟩
end
end Go.Proofs.YtocligpfmfmihaaGreatDoor
