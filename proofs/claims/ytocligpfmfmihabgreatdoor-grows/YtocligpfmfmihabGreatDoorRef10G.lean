import Derived.Test.YtocligpfmfmihabGreatDoorRefG
import Derived.Laws.Cover4
import Derived.Test.YtocligpfmfmihabGreatDoorRd3G
import Derived.Test.YtocligpfmfmihabGreatDoorRd
import Derived.WalkKit
import Derived.LaidEql
import Derived.Stop.Asserts
import Derived.RowKitTokens
namespace Go.Proofs.YtocligpfmfmihabGreatDoor
open Go Go.RowKit Go.Maps
variable {W w w' : World} {rb k : Nat} {s : ByteArray} {bad : Bool}

/-- The object that is being read, at block vb. -/
structure ObI (lo vb : Nat) (x : List (Bs × J × Nat)) (K L : Value) (G : Nat → Prop) (w : World) : Prop where
  blk : w.heap[vb]? = some (vCells 123 0 [] K L)
  rowK : w.ownsRow lo 9 1 K x.length (x.map fun p => .string ⟨p.1.toArray⟩)
  rowL : w.ownsRow lo 0 1 L x.length (x.map fun p => ptr p.2.2)
  trs : ∀ a j c, (a, j, c) ∈ x → RR w G j c
  nod : Nod (x.map fun p => (p.1, p.2.1))
  old : ∀ k, G k → lo ≤ k ∧ k < w.heap.size ∧ k ≠ vb
  ownK : ∀ k, K.ownBlock = some k → ¬ G k ∧ k ≠ vb
  ownL : ∀ k, L.ownBlock = some k → ¬ G k ∧ k ≠ vb
  kl : ∀ k, K.ownBlock = some k → L.ownBlock ≠ some k
theorem ObI.kp {lo vb : Nat} {x : List (Bs × J × Nat)} {K L : Value} {G : Nat → Prop} (h : ObI lo vb x K L G w) {S : Nat → Prop} (hk : Kp S w w') (hS : ∀ k, lo ≤ k → k < w.heap.size → ¬ S k) (hlo : lo ≤ vb) : ObI lo vb x K L G w' :=
  ⟨(hk.block vb (lt_heap h.blk) (hS vb hlo (lt_heap h.blk))).trans h.blk, ownsRow_kp h.rowK hk (fun k e => by have := h.rowK.lt k e; exact hS k this.1 this.2), ownsRow_kp h.rowL hk (fun k e => by have := h.rowL.lt k e; exact hS k this.1 this.2),
    fun a j c hm => (h.trs a j c hm).frame (fun k hG => hk.block k (h.old k hG).2.1 (hS k (h.old k hG).1 (h.old k hG).2.1)) (fun _ h => h), h.nod,
    fun k hG => ⟨(h.old k hG).1, Nat.lt_of_lt_of_le (h.old k hG).2.1 hk.size, (h.old k hG).2.2⟩, h.ownK, h.ownL, h.kl⟩
theorem ObI.tree {lo vb : Nat} {x : List (Bs × J × Nat)} {K L : Value} {G : Nat → Prop} (h : ObI lo vb x K L G w) (hlo : lo ≤ vb) : RR w (fun c => lo ≤ c ∧ c < w.heap.size) (.obj (ofL (x.map fun p => (p.1, p.2.1)))) vb :=
  .obj x K L ⟨hlo, lt_heap h.blk⟩ h.blk (ownsRow_zero h.rowK) (ownsRow_zero h.rowL) (fun k hk => h.rowK.lt k hk) (fun k hk => h.rowL.lt k hk) h.nod (fun a j c hm => (h.trs a j c hm).frame (fun _ _ => rfl) (fun k hk => ⟨(h.old k hk).1, (h.old k hk).2.1⟩))
/-- The key is laid, its value not yet. -/
structure ObK (lo vb : Nat) (x : List (Bs × J × Nat)) (v : Bs) (K L : Value) (G : Nat → Prop) (w : World) : Prop where
  blk : w.heap[vb]? = some (vCells 123 0 [] K L)
  rowK : w.ownsRow lo 9 1 K (x.length + 1) ((x.map fun p => .string ⟨p.1.toArray⟩) ++ [.string ⟨v.toArray⟩])
  rowL : w.ownsRow lo 0 1 L x.length (x.map fun p => ptr p.2.2)
  trs : ∀ a j c, (a, j, c) ∈ x → RR w G j c
  old : ∀ k, G k → lo ≤ k ∧ k < w.heap.size ∧ k ≠ vb
  ownK : ∀ k, K.ownBlock = some k → ¬ G k ∧ k ≠ vb
  ownL : ∀ k, L.ownBlock = some k → ¬ G k ∧ k ≠ vb
  kl : ∀ k, K.ownBlock = some k → L.ownBlock ≠ some k
theorem ObI.key {lo vb : Nat} {x : List (Bs × J × Nat)} {v : Bs} {K L K' : Value} {G : Nat → Prop} {w5 w6 : World} (h : ObI lo vb x K L G w5) (B : Kp (fun k => K.ownBlock = some k) w5 w6)
    (y1 : w6.ownsRow lo 9 1 K' (x.length + 1) ((x.map fun p => .string ⟨p.1.toArray⟩) ++ [.string ⟨v.toArray⟩])) (y3 : K'.ownBlock = K.ownBlock ∨ ∃ q, w5.heap.size ≤ q ∧ K'.ownBlock = some q) :
    ObK lo vb x v K' L G (w6.setCell ⟨vb, 3, none⟩ K') := by
  have hvb := lt_heap h.blk
  have own' : ∀ k, K'.ownBlock = some k → (¬ G k ∧ k ≠ vb) ∧ L.ownBlock ≠ some k := by
    intro k hk
    rcases y3 with e | ⟨q, hq, e⟩
    · rw [e] at hk
      exact ⟨h.ownK k hk, h.kl k hk⟩
    · rw [e] at hk
      injection hk with hk
      refine ⟨⟨fun hg => by have := h.old k hg; omega, by omega⟩, fun hl => by have := (h.rowL.lt k hl).2; omega⟩
  have h6 : w6.heap[vb]? = some (vCells 123 0 [] K L) := (B.block vb hvb (fun e => (h.ownK _ e).2 rfl)).trans h.blk
  refine ⟨?_, ?_, ?_, ?_, ?_, fun k hk => (own' k hk).1, h.ownL, fun k hk => (own' k hk).2⟩
  · simp [World.setCell, Array.getElem?_modify, h6, vCells]
  · exact ownsRow_heap y1 fun k hk => heap_set_other (own' k hk).1.2
  · refine ownsRow_heap h.rowL fun k hk => ?_
    rw [heap_set_other (h.ownL k hk).2, B.block k (h.rowL.lt k hk).2 (fun e => h.kl k e hk)]
  · intro a j c hm
    refine (h.trs a j c hm).frame (fun k hG => ?_) (fun _ hG => hG)
    rw [heap_set_other (h.old k hG).2.2, B.block k (h.old k hG).2.1 (fun e => (h.ownK k e).1 hG)]
  · intro k hG
    have q := h.old k hG
    have := B.size
    exact ⟨q.1, by simp [World.setCell]; omega, q.2.2⟩
theorem ObK.more {lo vb b : Nat} {x : List (Bs × J × Nat)} {v : Bs} {K L K' L' : Value} {G : Nat → Prop} {wv w5 w6 w7 w8 : World} {j : J} (h : ObK lo vb x v K' L G w7) (A4 : ObI lo vb x K L G wv)
    (ht : RR w5 (fun c => wv.heap.size ≤ c ∧ c < w5.heap.size) j b) (hnl : lookK v (x.map fun p => (p.1, p.2.1)) = none) (hf : ∀ k, wv.heap.size ≤ k → k < w5.heap.size → w7.heap[k]? = w5.heap[k]?) (hs5 : wv.heap.size ≤ w5.heap.size) (hg : w5.heap.size < w6.heap.size) (hs7 : w7.heap.size = w6.heap.size)
    (B : Kp (fun k => L.ownBlock = some k) w7 w8) (h8 : w8.heap[vb]? = some (vCells 123 0 [] K' L))
    (y1 : w8.ownsRow lo 0 1 L' (x.length + 1) ((x.map fun p => ptr p.2.2) ++ [ptr b])) (y3 : L'.ownBlock = L.ownBlock ∨ ∃ q, w6.heap.size ≤ q ∧ L'.ownBlock = some q) (_hlo : lo ≤ vb)
    (hKn : ∀ k, K'.ownBlock = some k → ¬ (wv.heap.size ≤ k ∧ k < w5.heap.size)) :
    ObI lo vb (x ++ [(v, j, b)]) K' L' (fun k => G k ∨ (wv.heap.size ≤ k ∧ k < w5.heap.size)) (w8.setCell ⟨vb, 4, none⟩ L') := by
  have hvb := lt_heap A4.blk
  have own' : ∀ k, L'.ownBlock = some k → (¬ (G k ∨ (wv.heap.size ≤ k ∧ k < w5.heap.size)) ∧ k ≠ vb) ∧ K'.ownBlock ≠ some k := by
    intro k hk
    rcases y3 with e | ⟨q, hq, e⟩
    · rw [e] at hk
      have := (A4.rowL.lt k hk).2
      exact ⟨⟨by rintro (q | q); exact (h.ownL k hk).1 q; omega, (h.ownL k hk).2⟩, fun e => h.kl k e hk⟩
    · rw [e] at hk
      injection hk with hk
      refine ⟨⟨?_, by omega⟩, fun e => by have := (h.rowK.lt k e).2; omega⟩
      rintro (q | q)
      · have := (h.old k q).2.1; omega
      · omega
  refine ⟨?_, ?_, ?_, ?_, ?_, ?_, ?_, fun k hk => (own' k hk).1, fun k hk e => (own' k e).2 hk⟩
  · simp [World.setCell, Array.getElem?_modify, h8, vCells]
  · rw [List.length_append, List.map_append]
    refine ownsRow_heap h.rowK fun k hk => ?_
    rw [heap_set_other (h.ownK k hk).2, B.block k (h.rowK.lt k hk).2 (fun e => h.kl k hk e)]
  · rw [List.length_append, List.map_append]
    exact ownsRow_heap y1 fun k hk => heap_set_other (own' k hk).1.2
  · intro a i c hm
    rcases List.mem_append.1 hm with hm | hm
    · refine (h.trs a i c hm).frame (fun k hG => ?_) (fun k hG => Or.inl hG)
      rw [heap_set_other (h.old k hG).2.2, B.block k (h.old k hG).2.1 (fun e => (h.ownL k e).1 hG)]
    · obtain ⟨rfl, rfl, rfl⟩ : a = v ∧ i = j ∧ c = b := by simpa using hm
      refine ht.frame (fun k hG => ?_) (fun k hG => Or.inr hG)
      rw [heap_set_other (by show k ≠ vb; omega), B.block k (by omega) (fun e => by have := (A4.rowL.lt k e).2; omega), hf k hG.1 hG.2]
  · rw [List.map_append]
    exact (nod_snoc _ v j).2 ⟨A4.nod, hnl⟩
  · have := B.size
    have hz : (w8.setCell ⟨vb, 4, none⟩ L').heap.size = w8.heap.size := by simp [World.setCell]
    rintro k (hG | hG)
    · have q := h.old k hG
      exact ⟨q.1, by omega, q.2.2⟩
    · have := (A4.rowL).1
      exact ⟨by omega, by omega, by omega⟩
  · intro k hk
    refine ⟨?_, (h.ownK k hk).2⟩
    rintro (q | q)
    · exact (h.ownK k hk).1 q
    · exact hKn k hk q

end Go.Proofs.YtocligpfmfmihabGreatDoor
namespace Go.Proofs.YtocligpfmfmihabGreatDoor
open Go Go.RowKit Go.Extern.Stop Go.Stop Go.Extern

theorem isTypeOf (v : Value) (w : World) : (Extern.ReflectliteType.typeOf #[.iface 350 v]).run Tryz.prog w = .ok (.iface 237 (.agg #[.pointer (some ⟨31, 350, none⟩)])) w := by kernel_rfl
theorem callTypeOf (v : Value) (w : World) : (callFunc 81 #[.iface 350 v]).run Tryz.prog w = .ok (.value (.iface 237 (.agg #[.pointer (some ⟨31, 350, none⟩)]))) w := by
  rw [@run_callFunc_extern Tryz.prog 81 _ Extern.ReflectliteType.typeOf Tryz.func81 (by kernel_rfl) (by kernel_rfl) (by kernel_rfl) (by kernel_rfl), isTypeOf]
  rfl
theorem isComparable (w : World) : ((Extern.ReflectliteType.method fun t => do Extern.Rtype.noPackHeld "Comparable" t; pure (.bool (← typeInfo t).comparable)) #[.agg #[.pointer (some ⟨31, 350, none⟩)]]).run Tryz.prog w = .ok (.bool true) w := by kernel_rfl
theorem callComparable (w : World) : (callFunc 273 #[.agg #[.pointer (some ⟨31, 350, none⟩)]]).run Tryz.prog w = .ok (.value (.bool true)) w := by
  rw [@run_callFunc_extern Tryz.prog 273 _ (Extern.ReflectliteType.method fun t => do Extern.Rtype.noPackHeld "Comparable" t; pure (.bool (← typeInfo t).comparable)) Tryz.func273 (by kernel_rfl) (by kernel_rfl) (by kernel_rfl) (by kernel_rfl), isComparable]
  rfl
theorem isMethodComparable (v : Value) (w : World) : (Go.method 481 237 v "Comparable").run Tryz.prog w = .ok (273, v) w := by kernel_rfl
theorem isComp : (Tryz.prog.info? 350).map (·.comparable) = some true := by kernel_rfl
theorem isSize : (Tryz.prog.info? 370).map (·.size) = some 1 := by kernel_rfl
theorem noIsE (v : Value) (xT : TypeId) (w : World) : (Instr.typeAssert (.iface 350 v) xT 254 true).run Tryz.prog w = .ok (.tuple #[.nilIface, .bool false]) w := run_typeAssert_lacksB Tryz.underlying254 (by kernel_rfl) (by kernel_rfl) v xT w
theorem noUnwrapE (v : Value) (xT : TypeId) (w : World) : (Instr.typeAssert (.iface 350 v) xT 244 true).run Tryz.prog w = .ok (.tuple #[.nilIface, .bool false]) w := run_typeAssert_lacksB Tryz.underlying244 (by kernel_rfl) (by kernel_rfl) v xT w
theorem noUnwrapsE (v : Value) (xT : TypeId) (w : World) : (Instr.typeAssert (.iface 350 v) xT 246 true).run Tryz.prog w = .ok (.tuple #[.nilIface, .bool false]) w := run_typeAssert_lacksB Tryz.underlying246 (by kernel_rfl) (by kernel_rfl) v xT w
theorem noAsE (v : Value) (xT : TypeId) (w : World) : (Instr.typeAssert (.iface 350 v) xT 241 true).run Tryz.prog w = .ok (.tuple #[.nilIface, .bool false]) w := run_typeAssert_lacksB Tryz.underlying241 (by kernel_rfl) (by kernel_rfl) v xT w
theorem noIsF (v : Value) (xT : TypeId) (w : World) : (Instr.typeAssert (.iface 130 v) xT 254 true).run Tryz.prog w = .ok (.tuple #[.nilIface, .bool false]) w := run_typeAssert_lacksB Tryz.underlying254 (by kernel_rfl) (by kernel_rfl) v xT w
theorem hasUnwrapF (v : Value) (xT : TypeId) (w : World) : (Instr.typeAssert (.iface 130 v) xT 244 true).run Tryz.prog w = .ok (.tuple #[.iface 130 v, .bool true]) w := run_typeAssert_hasB Tryz.underlying244 (by kernel_rfl) v xT w
theorem methodUnwrap (v : Value) (w : World) : (Go.method 481 130 v "Unwrap").run Tryz.prog w = .ok (258, v) w := by kernel_rfl
set_option maxRecDepth 20000 in
/-- errors.Is(x, x). -/
theorem is_same (b : Addr) (w : World) : Calls Tryz.prog 54 #[errV b, errV b] w fun e w' => e = .returned (.bool true) ∧ w' = w := by
  unfold errV
  obtain ⟨i, hi, hcmp⟩ := Option.map_eq_some_iff.1 isComp
  obtain ⟨j, hj, hjs⟩ := Option.map_eq_some_iff.1 isSize
  have h8 := callTypeOf
  have h32 := callComparable
  have mR := isMethodComparable
  have heq := run_eql_iface_ptr_same (P := Tryz.prog) w b Tryz.underlying58 Tryz.underlying350 hi hcmp hj
  go_enter Tryz.func54, Tryz.ntmps54
  go_wp2
  refine wp_loop_rounds 1 ?_
  rw [rounds_succ]
  go_wp2
  go_ret
  exact ⟨rfl, rfl⟩
set_option maxRecDepth 20000 in
/-- errors.Is(x, y), two of errors.New's. -/
theorem is_other (a b : Addr) (ca cb : Array Value) (ta tb : TypeId) (w : World) (hne : a ≠ b) (ha : w.heap[a.block]? = some (.cells ca ta (0, 0))) (hb : w.heap[b.block]? = some (.cells cb tb (0, 0))) :
    Calls Tryz.prog 54 #[errV a, errV b] w fun e w' => e = .returned (.bool false) ∧ w' = w := by
  unfold errV
  obtain ⟨i, hi, hcmp⟩ := Option.map_eq_some_iff.1 isComp
  obtain ⟨j, hj, hjs⟩ := Option.map_eq_some_iff.1 isSize
  have h8 := callTypeOf
  have h32 := callComparable
  have mR := isMethodComparable
  have nE := noIsE
  have uE := noUnwrapE
  have vE := noUnwrapsE
  have heq := run_eql_iface_ptr_other (P := Tryz.prog) (a := a) (b := b) w Tryz.underlying58 Tryz.underlying350 hi hcmp hj (by rw [hjs]; decide) hne ha hb
  go_enter Tryz.func54, Tryz.ntmps54
  go_wp2
  refine wp_loop_rounds 1 ?_
  rw [rounds_succ]
  go_wp2
  go_ret
  exact ⟨rfl, rfl⟩
set_option maxRecDepth 20000 in
/-- errors.Is(f, y), f a *Fault over x, another one of errors.New's. -/
theorem is_fault (fb : Nat) (a b : Addr) (kv : Value) (ca cb : Array Value) (ta tb : TypeId) (w : World) (hf : w.heap[fb]? = some (.cells #[kv, errV a] 228)) (hne : a ≠ b) (ha : w.heap[a.block]? = some (.cells ca ta (0, 0))) (hb : w.heap[b.block]? = some (.cells cb tb (0, 0))) :
    Calls Tryz.prog 54 #[.iface 130 (.pointer (some ⟨fb, 0, none⟩)), errV b] w fun e w' => e = .returned (.bool false) ∧ w' = w := by
  have h1 : w.cell? ⟨fb, 1, none⟩ = some (errV a) := by simp [World.cell?, hf]
  unfold errV at h1 ⊢
  clear hf
  obtain ⟨i, hi, hcmp⟩ := Option.map_eq_some_iff.1 isComp
  obtain ⟨j, hj, hjs⟩ := Option.map_eq_some_iff.1 isSize
  have h8 := callTypeOf
  have h32 := callComparable
  have mR := isMethodComparable
  have nE := noIsE
  have uE := noUnwrapE
  have vE := noUnwrapsE
  have nW := noIsF
  have uW := hasUnwrapF
  have mU := methodUnwrap
  have heq := run_eql_iface_ptr_other (P := Tryz.prog) (a := a) (b := b) w Tryz.underlying58 Tryz.underlying350 hi hcmp hj (by rw [hjs]; decide) hne ha hb
  have hty := run_eql_iface_types (P := Tryz.prog) 130 350 (.pointer (some ⟨fb, 0, none⟩)) (.pointer (some b)) Tryz.underlying58 (by decide) w
  go_enter Tryz.func54, Tryz.ntmps54
  go_wp2
  refine wp_loop_rounds 2 ?_
  rw [rounds_succ]
  go_wp2
  rw [rounds_succ]
  go_wp2
  go_ret
  exact ⟨rfl, rfl⟩
end Go.Proofs.YtocligpfmfmihabGreatDoor
namespace Go.Proofs.YtocligpfmfmihabGreatDoor
open Go Go.RowKit Go.Extern.Stop Go.Stop Go.Extern

theorem c_valueOf (t : Addr) (w : World) : (callFunc 75 #[.iface 133 (.pointer (some t))]).run Tryz.prog w = .ok (.value ((Value.agg #[Value.pointer (some (Addr.mk 31 133 none)), Value.pointer (some ⟨w.heap.size, 0, none⟩), Value.int IntKind.u64 150]))) (w.alloc (.cells #[.pointer (some t)] 133)) := by
  rw [@run_callFunc_extern Tryz.prog 75 _ (fun args => ReflectliteValue.unpack (args.getD 0 (.tuple #[]))) Tryz.func75 (by kernel_rfl) (by kernel_rfl) (by kernel_rfl) (by kernel_rfl)]
  kernel_rfl
theorem c_valueOfF (t : Addr) (w : World) : (callFunc 75 #[.iface 130 (.pointer (some t))]).run Tryz.prog w = .ok (.value ((Value.agg #[Value.pointer (some (Addr.mk 31 130 none)), Value.pointer (some ⟨w.heap.size, 0, none⟩), Value.int IntKind.u64 150]))) (w.alloc (.cells #[.pointer (some t)] 130)) := by
  rw [@run_callFunc_extern Tryz.prog 75 _ (fun args => ReflectliteValue.unpack (args.getD 0 (.tuple #[]))) Tryz.func75 (by kernel_rfl) (by kernel_rfl) (by kernel_rfl) (by kernel_rfl)]
  kernel_rfl
theorem c_type (a : Addr) (w : World) : (callFunc 76 #[(Value.agg #[Value.pointer (some (Addr.mk 31 133 none)), Value.pointer (some a), Value.int IntKind.u64 150])]).run Tryz.prog w = .ok (.value (.iface 237 ((Value.agg #[Value.pointer (some (Addr.mk 31 133 none))])))) w := by
  rw [@run_callFunc_extern Tryz.prog 76 _ (ReflectliteValue.methodAny (ReflectliteValue.valueError "reflectlite.Value.Type" 0) (fun t _ _ _ => ReflectliteType.toType t)) Tryz.func76 (by kernel_rfl) (by kernel_rfl) (by kernel_rfl) (by kernel_rfl)]
  kernel_rfl
theorem m_kind (h : Value) (w : World) : (Go.method 481 237 (.agg #[h]) "Kind").run Tryz.prog w = .ok (249, h) w := by kernel_rfl
theorem m_elem (h : Value) (w : World) : (Go.method 481 237 (.agg #[h]) "Elem").run Tryz.prog w = .ok (274, .agg #[h]) w := by kernel_rfl
theorem m_impl (h : Value) (w : World) : (Go.method 481 237 (.agg #[h]) "Implements").run Tryz.prog w = .ok (275, .agg #[h]) w := by kernel_rfl
theorem m_assign (h : Value) (w : World) : (Go.method 481 237 (.agg #[h]) "AssignableTo").run Tryz.prog w = .ok (272, .agg #[h]) w := by kernel_rfl
theorem c_kind1 (w : World) : (callFunc 249 #[.pointer (some ⟨31, 133, none⟩)]).run Tryz.prog w = .ok (.value (.int .u8 22)) w := by
  rw [@run_callFunc_extern Tryz.prog 249 _ (ReflectliteType.abiMethod fun t => do pure (.int .u8 (← Rtype.kind t))) Tryz.func249 (by kernel_rfl) (by kernel_rfl) (by kernel_rfl) (by kernel_rfl)]
  kernel_rfl
theorem c_kind2 (w : World) : (callFunc 249 #[.pointer (some ⟨31, 130, none⟩)]).run Tryz.prog w = .ok (.value (.int .u8 22)) w := by
  rw [@run_callFunc_extern Tryz.prog 249 _ (ReflectliteType.abiMethod fun t => do pure (.int .u8 (← Rtype.kind t))) Tryz.func249 (by kernel_rfl) (by kernel_rfl) (by kernel_rfl) (by kernel_rfl)]
  kernel_rfl
theorem c_elem (w : World) : (callFunc 274 #[(Value.agg #[Value.pointer (some (Addr.mk 31 133 none))])]).run Tryz.prog w = .ok (.value (.iface 237 ((Value.agg #[Value.pointer (some (Addr.mk 31 130 none))])))) w := by
  rw [@run_callFunc_extern Tryz.prog 274 _ (ReflectliteType.method ReflectliteType.elem) Tryz.func274 (by kernel_rfl) (by kernel_rfl) (by kernel_rfl) (by kernel_rfl)]
  kernel_rfl
theorem c_impl (w : World) : (callFunc 275 #[(Value.agg #[Value.pointer (some (Addr.mk 31 130 none))]), .iface 237 ((Value.agg #[Value.pointer (some (Addr.mk 31 58 none))]))]).run Tryz.prog w = .ok (.value (.bool true)) w := by
  rw [@run_callFunc_extern Tryz.prog 275 _ (ReflectliteType.relation "Implements" ReflectliteType.implements_) Tryz.func275 (by kernel_rfl) (by kernel_rfl) (by kernel_rfl) (by kernel_rfl)]
  kernel_rfl
theorem c_assF (w : World) : (callFunc 272 #[(Value.agg #[Value.pointer (some (Addr.mk 31 130 none))]), .iface 237 ((Value.agg #[Value.pointer (some (Addr.mk 31 130 none))]))]).run Tryz.prog w = .ok (.value (.bool true)) w := by
  rw [@run_callFunc_extern Tryz.prog 272 _ (ReflectliteType.relation "AssignableTo" ReflectliteType.assignableTo) Tryz.func272 (by kernel_rfl) (by kernel_rfl) (by kernel_rfl) (by kernel_rfl)]
  kernel_rfl
theorem c_assE (w : World) : (callFunc 272 #[(Value.agg #[Value.pointer (some (Addr.mk 31 350 none))]), .iface 237 ((Value.agg #[Value.pointer (some (Addr.mk 31 130 none))]))]).run Tryz.prog w = .ok (.value (.bool false)) w := by
  rw [@run_callFunc_extern Tryz.prog 272 _ (ReflectliteType.relation "AssignableTo" ReflectliteType.assignableTo) Tryz.func272 (by kernel_rfl) (by kernel_rfl) (by kernel_rfl) (by kernel_rfl)]
  kernel_rfl
theorem c_typeOfF (v : Value) (w : World) : (callFunc 81 #[.iface 130 v]).run Tryz.prog w = .ok (.value (.iface 237 ((Value.agg #[Value.pointer (some (Addr.mk 31 130 none))])))) w := by
  rw [@run_callFunc_extern Tryz.prog 81 _ Extern.ReflectliteType.typeOf Tryz.func81 (by kernel_rfl) (by kernel_rfl) (by kernel_rfl) (by kernel_rfl)]
  kernel_rfl

theorem rlm (z : Sem Value) (f : TypeId → Addr → Nat → Nat → Sem Value) (v : Value) :
    ReflectliteValue.method z f #[v] = (do match ← ReflectliteValue.parts v with | none => z | some (t, a, fl) => f t a fl (fl % 32)) := rfl
theorem r_parts1 (a : Addr) (w : World) : (ReflectliteValue.parts ((Value.agg #[Value.pointer (some (Addr.mk 31 133 none)), Value.pointer (some a), Value.int IntKind.u64 150]))).run Tryz.prog w = .ok (some (133, a, 150)) w := by kernel_rfl
theorem r_parts2 (a : Addr) (w : World) : (ReflectliteValue.parts ((Value.agg #[Value.pointer (some (Addr.mk 31 130 none)), Value.pointer (some a), Value.int IntKind.u64 150]))).run Tryz.prog w = .ok (some (130, a, 150)) w := by kernel_rfl
theorem r_parts3 (a : Addr) (w : World) : (ReflectliteValue.parts ((Value.agg #[Value.pointer (some (Addr.mk 31 130 none)), Value.pointer (some a), Value.int IntKind.u64 406]))).run Tryz.prog w = .ok (some (130, a, 406)) w := by kernel_rfl
theorem r_elemOf (w : World) : (Rtype.elem? 133).run Tryz.prog w = .ok (some 130) w := by kernel_rfl
theorem r_mk (p : Addr) (w : World) : (ReflectliteValue.mk 130 p ReflectliteValue.flagAddr).run Tryz.prog w = .ok ((Value.agg #[Value.pointer (some (Addr.mk 31 130 none)), Value.pointer (some p), Value.int IntKind.u64 406])) w := by kernel_rfl
theorem r_direct (w : World) : (Rtype.directlyAssignable 130 130).run Tryz.prog w = .ok true w := by kernel_rfl
theorem c_isNil (a p : Addr) (W : World) (ha : W.cell? a = some (.pointer (some p))) : (callFunc 77 #[(Value.agg #[Value.pointer (some (Addr.mk 31 133 none)), Value.pointer (some a), Value.int IntKind.u64 150])]).run Tryz.prog W = .ok (.value (.bool false)) W := by
  rw [@run_callFunc_extern Tryz.prog 77 _ (ReflectliteValue.method (ReflectliteValue.valueError "reflectlite.Value.IsNil" 0) ReflectliteValue.isNil) Tryz.func77 (by kernel_rfl) (by kernel_rfl) (by kernel_rfl) (by kernel_rfl)]
  rw [rlm]
  simp only [Sem.run_bind, r_parts1, Result.andThen]
  simp [ReflectliteValue.isNil, loadVar, isAgg, underlying, Tryz.underlying133, ha, Result.andThen]
theorem c_elemV (a p : Addr) (W : World) (ha : W.cell? a = some (.pointer (some p))) : (callFunc 119 #[(Value.agg #[Value.pointer (some (Addr.mk 31 133 none)), Value.pointer (some a), Value.int IntKind.u64 150])]).run Tryz.prog W = .ok (.value ((Value.agg #[Value.pointer (some (Addr.mk 31 130 none)), Value.pointer (some p), Value.int IntKind.u64 406]))) W := by
  rw [@run_callFunc_extern Tryz.prog 119 _ (ReflectliteValue.method (ReflectliteValue.valueError "reflectlite.Value.Elem" 0) ReflectliteValue.elem) Tryz.func119 (by kernel_rfl) (by kernel_rfl) (by kernel_rfl) (by kernel_rfl)]
  rw [rlm]
  simp only [Sem.run_bind, r_parts1, Result.andThen]
  simp [ReflectliteValue.elem, loadVar, isAgg, underlying, Tryz.underlying133, ha, Result.andThen, r_elemOf, r_mk]
end Go.Proofs.YtocligpfmfmihabGreatDoor
