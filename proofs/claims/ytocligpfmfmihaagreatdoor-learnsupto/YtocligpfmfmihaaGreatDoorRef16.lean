import Derived.Test.YtocligpfmfmihaaGreatDoorRef9G
namespace Go.Proofs.YtocligpfmfmihaaGreatDoor
open Go Go.RowKit Go.Maps
theorem wpList_append_any {P : Program} (w : World) {ops : Array Oper} {rest : List Oper} {o : Oper} {a : Act} {Q : Exit → Act → World → Prop} (hgd : o.guard = none) (s x : Operand) (t : TypeId)
  (ho : o.op = .call { callee := .builtin .append, args := #[s, x], argTypes := #[t, t] })
  (base : Nat) (e : TypeId) (i : TypeInfo) (z : Value) (size bytes : Nat) (ht : P.underlying t = some (.slice e)) (hi : P.info? e = some i) (hz : i.zero = some z)
  (hsize : i.size = size) (hby : i.bytes = bytes) (hzs : z.cells.size = size) (hsz : 0 < size)
  (v : Value) (n : Nat) (xs : List Value) (hs : a.eval s = v) (hown : w.ownsRow base e size v n xs)
  (ao : Option Addr) (m c : Nat) (news : List Value) (hx : a.eval x = .slice ao m c) (hl : news.length = m * size) (hnone : ao = none → m = 0 ∧ c = 0) (hnews : ∀ ad, ao = some ad → ∀ j u, news[j]? = some u → w.cell? (ad.add j) = some u) (h1 : ∀ u ∈ news, u.oneCell' = true)
  (h63 : n + m ≤ maxLen) (hbytes : (n + m) * bytes ≤ 140737488355328) (hbase : base ≤ w.heap.size)
  (h : ∀ v' w', w'.ownsRow base e size v' (n + m) (xs ++ news) → w.grownBy w' v.ownBlock → (v'.ownBlock = v.ownBlock ∨ v'.ownBlock = some w.heap.size) → wpList P ops Q rest (a.put o.dst v') w') :
  wpList P ops Q (o :: rest) a w := by
 cases ao with
 | some ad => exact wpList_append_own_at w hgd s x t ho base e i z size bytes ht hi hz hsize hby hzs hsz v n xs hs hown ad m c news hx hl (hnews ad rfl) h1 h63 hbytes hbase fun v' w' a b _ c => h v' w' a b c
 | none =>
  obtain ⟨rfl, rfl⟩ := hnone rfl
  have hn : news = [] := List.eq_nil_of_length_eq_zero (by simpa using hl)
  subst hn
  refine wpList_plain hgd fun K hK' => ?_
  have hrun := run_append_owned_none (P := P) w base t o.type e i size ht hi v n xs hown
  unfold Oper.wp
  simp [execOp, ho, resolve, invoke, builtin, hs, hx, hrun, Result.andThen]
  exact hK' _ _ (by simpa using h v w (by simpa using hown) (World.grownBy.refl _ _) (Or.inl rfl))
theorem less_lt (a b : Bs) : Op.bytesLess a b = decide (a < b) := by
 induction a generalizing b with
 | nil => cases b <;> simp [Op.bytesLess]
 | cons x a ih =>
  cases b with
  | nil => simp [Op.bytesLess]
  | cons y b =>
   rw [Op.bytesLess, ih, Bool.eq_iff_iff]
   simp only [Bool.or_eq_true, decide_eq_true_eq, Bool.and_eq_true, beq_iff_eq]
   rw [List.cons_lt_cons_iff]
theorem own_cap {w : World} {B : Nat} {e : TypeId} {a : Option Addr} {n c : Nat} {xs : List Value} (h : w.ownsRow B e 1 (.slice a n c) n xs) : n ≤ c := by
 obtain ⟨_, ⟨e1, e2⟩ | ⟨g, cap, cur, e1, _, _, h3, _⟩⟩ := h
 ·injection e1; omega
 ·injection e1; omega
theorem tw_more {α : Type} (p : α → Bool) : ∀ (l : List α) (n : Nat) (j : α), n ≤ (l.takeWhile p).length → l[n]? = some j → (p j = true → n + 1 ≤ (l.takeWhile p).length) ∧ (p j = false → n = (l.takeWhile p).length)
 | [], n, j, _, h => by cases h
 | a :: l, n, j, hn, h => by
  cases n with
  | zero =>
   simp at h
   subst h
   refine ⟨fun hp => by simp [hp], fun hp => by simp [hp]⟩
  | succ n =>
   by_cases ha : p a = true
   ·simp only [List.takeWhile_cons, ha, if_true, List.length_cons] at hn ⊢
    have := tw_more p l n j (by omega) (by simpa using h)
    exact ⟨fun hp => by have := this.1 hp; omega, fun hp => by have := this.2 hp; omega⟩
   ·simp [ha] at hn
theorem infoInt : (Tryz.prog.info? 3).map (fun i => (i.zero, i.size, i.bytes)) = some (some (.int .i64 0), 1, 8) := by kernel_rfl
def ixV (j : Nat) : Value := .int .i64 (j : Int)
set_option maxRecDepth 20000 in
set_option maxHeartbeats 2000000 in
theorem rorder_c (w : World) (ks : List Bs) (B : Nat) (K : Value) (hK : w.ownsRow B 9 1 K ks.length (ks.map fun k => .string ⟨k.toArray⟩)) (hl : ks.length ≤ 1000000000) :
  Calls Tryz.prog 72 #[K] w fun e w' => ∃ v, e = .returned v ∧ Kp (fun _ => False) w w' ∧ w'.ownsRow w.heap.size 3 1 v ks.length ((ordIx ks ks.length).map ixV) := by
 obtain ⟨i0, hi, hz0, hz1, hz2⟩ := info_parts infoInt
 cases ks with
 | nil =>
  obtain ⟨a, c, rfl⟩ := own_slice hK
  go_enter Tryz.func72, Tryz.ntmps72
  go_wp2_with fail
  go_loopg [3, 4] 1 (fun g a b wr => g = 1 ∧ a = .slice none 0 0 ∧ b = .int .i64 0 ∧ wr = w)
  case atStart => exact ⟨rfl, rfl, rfl, rfl⟩
  case round =>
   obtain ⟨rfl, rfl, rfl, rfl⟩ := hrel
   go_wp2
   go_ret
   exact ⟨_, rfl, Kp.refl _ _, World.ownsRow_nil _ _ _ _⟩
 | cons k0 ks0 =>
  obtain ⟨kb, cap, rfl⟩ := own_shape (n := ks0.length) (by simpa using hK)
  generalize hmm : k0 :: ks0 = ks at *
  have hln : ks0.length + 1 = ks.length := by rw [← hmm]; rfl
  rw [hln] at hK ⊢
  have hgk := (hK.lt kb rfl).2
  have hpos : 0 < ks.length := by omega
  clear hmm hln
  have CK := hide (own_cell hK)
  clear hK
  go_enter Tryz.func72, Tryz.ntmps72
  go_wp2_with fail
  go_loopg [3, 4] ks.length (fun g a b wr => ∃ (i : Nat), g = ks.length - i ∧ i ≤ ks.length ∧ b = .int .i64 (i : Int) ∧ Kp (fun _ => False) w wr ∧ wr.ownsRow w.heap.size 3 1 a i ((ordIx ks i).map ixV))
  case atStart => exact ⟨0, rfl, by omega, rfl, Kp.refl _ _, World.ownsRow_nil _ _ _ _⟩
  case round =>
   obtain ⟨i, hg, hin, rfl, K1, hrow⟩ := hrel
   have HG := hide hg
   clear hg
   obtain ⟨la, lc, rfl⟩ := own_slice hrow
   by_cases hlt : i < ks.length
   ·have hlt' : (i : Int) < (ks.length : Int) := by omega
    have ckw : ∀ j, j < ks.length → wr.cell? ⟨kb, j, none⟩ = some (.string ⟨(ks.getD j []).toArray⟩) := by
     intro j hj
     rw [K1.cell (p := ⟨kb, j, none⟩) hgk (by simp)]
     refine CK.out j _ ?_
     rw [List.getElem?_map, List.getElem?_eq_getElem hj, List.getD, List.getElem?_eq_getElem hj]
     rfl
    have CKW := hide ckw
    clear ckw
    have hix := ordIx_len ks i
    have hixl := ordIx_lt ks i
    generalize hII : ordIx ks i = I at *
    have HII := hide hII
    clear hII
    go_wp2_with fail
    go_loopg [5] i (fun g2 c2 w2 => ∃ (at' : Nat), g2 = i - at' ∧ at' ≤ (I.takeWhile (fun j => decide (ks.getD j [] < ks.getD i []))).length ∧ c2 = .int .i64 (at' : Int) ∧ ∃ m, wr.drewN m = w2)
    case atStart => exact ⟨0, rfl, by omega, rfl, 0, rfl⟩
    case round =>
     obtain ⟨at', hg2, hat, rfl, m, rfl⟩ := hrel
     have H2 := hide hg2
     clear hg2
     have htw := (List.takeWhile_sublist (fun j => decide (ks.getD j [] < ks.getD i [])) (l := I)).length_le
     by_cases hal : at' < i
     ·obtain ⟨gl, rfl⟩ : ∃ gl, la = some ⟨gl, 0, none⟩ := by
       obtain ⟨i', rfl⟩ : ∃ i', i = i' + 1 := ⟨i - 1, by omega⟩
       obtain ⟨g9, c9, e9⟩ := own_shape hrow
       injection e9 with e1 e2 e3
       exact ⟨g9, e1⟩
      have hcapl := own_cap hrow
      have hcl := own_cell hrow
      obtain ⟨j, hj⟩ : ∃ j, I[at']? = some j := ⟨I[at'], List.getElem?_eq_getElem (by omega)⟩
      have hjl := hixl j (List.mem_of_getElem? hj)
      have c1 := hcl at' (ixV j) (by rw [List.getElem?_map, hj]; rfl)
      have c2 := CKW.out j (by omega)
      have c3 := CKW.out i hlt
      unfold ixV at c1
      have d1 : decide ((at' : Int) < (i : Int)) = true := by simp; omega
      have d2 : (j : Int) < (ks.length : Int) := by omega
      have tm := tw_more (fun j => decide (ks.getD j [] < ks.getD i [])) I at' j hat hj
      obtain ⟨kj, hkj⟩ : ∃ kj, kj = ks.getD j [] := ⟨_, rfl⟩
      obtain ⟨ki, hki⟩ : ∃ ki, ki = ks.getD i [] := ⟨_, rfl⟩
      rw [← hkj] at c2
      rw [← hki] at c3
      have hlk : decide (ks.getD j [] < ks.getD i []) = Op.bytesLess kj ki := by rw [less_lt, hkj, hki]
      have TM := hide (And.intro tm hlk)
      have RW := hide hrow
      clear hcl hj hrow tm hlk hkj hki
      cases hcmp : Op.bytesLess kj ki with
      | true =>
       go_wp2
       go_quiet (fail)
       go_wp2
       go_roundg (i - (at' + 1))
       case measure => rw [H2.out]; omega
       case rel => exact ⟨at' + 1, rfl, TM.out.1.1 (TM.out.2.trans hcmp), int_i64 (by omega), _, rfl⟩
      | false =>
       have FIN : Hid (at' = (I.takeWhile (fun j => decide (ks.getD j [] < ks.getD i []))).length) := TM.out.1.2 (TM.out.2.trans hcmp)
       clear TM hat htw
       go_wp2
       go_quiet (fail)
       clear c1 c2 c3 d1 d2 hcmp
       have hce : ¬ lc = at' := by omega
       have hnx : ordIx ks (i + 1) = I.take at' ++ i :: I.drop at' := by
        have q1 := tw_take (fun j => decide (ks.getD j [] < ks.getD i [])) I
        have q2 := tw_drop (fun j => decide (ks.getD j [] < ks.getD i [])) I
        rw [← FIN.out] at q1 q2
        rw [ordIx, HII.out, insIx, ← q1, ← q2]
       have HNX := hide hnx
       clear hnx
       have rowW : (wr.drewN (m + nq)).ownsRow w.heap.size 3 1 (.slice (some ⟨gl, 0, none⟩) i lc) i (I.map ixV) := RW.out
       have hcapl := own_cap rowW
       have hszw : w.heap.size ≤ wr.heap.size := K1.size
       have K2 : Kp (fun _ => False) w (wr.drewN (m + nq)) := K1.drewN _
       have nil2 := World.ownsRow_nil (wr.drewN (m + nq)) w.heap.size 3 1
       go_wp2_with (at_builtin; (refine wpList_append_any _ rfl _ _ 130 rfl w.heap.size 3 i0 (.int .i64 0) 1 8 Tryz.underlying130 hi hz0 hz1 hz2 rfl (by decide) _ _ _ rfl nil2 (some ⟨gl, 0, none⟩) at' lc ((I.take at').map ixV) rfl ?a1 ?a2 ?a3 ?a4 ?a5 ?a6 ?a7 ?_))
       case a1 => simp; omega
       case a2 => intro e; cases e
       case a3 => intro ad had j u hu; injection had with had; subst had; rw [Addr.add_lit, Nat.zero_add]; refine own_cell rowW j u ?_; rw [List.map_take] at hu; exact (List.getElem?_take_of_lt (by rcases Nat.lt_or_ge j at' with q | q; exact q; rw [List.getElem?_eq_none (by simp; omega)] at hu; cases hu)).symm.trans hu
       case a4 => intro u hu; obtain ⟨_, _, rfl⟩ := List.mem_map.1 hu; rfl
       case a5 => unfold maxLen; omega
       case a6 => omega
       case a7 => exact hszw
       intro v1 w3 r1 g1 o1
       obtain ⟨va, vc, rfl⟩ : ∃ va vc, v1 = .slice va at' vc := by
        obtain ⟨a, c, e⟩ := own_slice r1
        exact ⟨a, c, by first | (rw [e]; done) | (rw [e]; simp)⟩
       have hsz3 : wr.heap.size ≤ w3.heap.size := g1.size
       go_wp2_with (at_builtin; refine wpList_append_own_at _ rfl _ _ 130 rfl w.heap.size 3 i0 (.int .i64 0) 1 8 Tryz.underlying130 hi hz0 hz1 hz2 rfl (by decide) _ _ _ rfl (r1.alloc _) ⟨w3.heap.size, 0, none⟩ 1 1 [ixV i] rfl rfl ?b1 ?b2 ?b3 ?b4 ?b5 ?_)
       case b1 => exact cell_one_new _ _ _
       case b2 => intro u hu; simp at hu; subst hu; rfl
       case b3 => unfold maxLen; omega
       case b4 => omega
       case b5 => simp; omega
       intro v2 w4 r2 g2 _ o2
       obtain ⟨vb, vd, rfl⟩ : ∃ vb vd, v2 = .slice vb (at' + 1) vd := by
        obtain ⟨a, c, e⟩ := own_slice r2
        exact ⟨a, c, by first | (rw [e]; done) | (rw [e]; simp)⟩
       have hsz4 := g2.size
       simp at hsz4
       have hgl : gl < wr.heap.size := (rowW.lt gl rfl).2
       have ho1 : some gl ≠ (Value.slice va at' vc).ownBlock := by
        rcases o1 with o1 | o1
        ·rw [o1]; simp [Value.ownBlock]
        ·rw [o1]; simp; omega
       have hb3 : w3.heap[gl]? = (wr.drewN (m + nq)).heap[gl]? := g1.block gl hgl (by simp [Value.ownBlock])
       have hb4 : w4.heap[gl]? = (wr.drewN (m + nq)).heap[gl]? := (g2.block gl (by simp; omega) ho1).trans ((Below.heap_alloc _ _ _ (by omega)).trans hb3)
       have cells4 : ∀ j u, (I.map ixV)[j]? = some u → w4.cell? ⟨gl, j, none⟩ = some u := by
        intro j u hu
        rw [World.cell?_of_block (a := ⟨gl, j, none⟩) hb4]
        exact own_cell rowW j u hu
       have news4 : ∀ j u, ((I.drop at').map ixV)[j]? = some u → w4.cell? ⟨gl, at' + j, none⟩ = some u := by
        intro j u hu
        refine cells4 (at' + j) u ?_
        rw [List.map_drop, List.getElem?_drop] at hu
        exact hu
       have N4 := hide news4
       clear cells4 news4 hb3 hb4 ho1
       go_wp2_with (at_builtin; (refine wpList_append_any _ rfl _ _ 130 rfl w.heap.size 3 i0 (.int .i64 0) 1 8 Tryz.underlying130 hi hz0 hz1 hz2 rfl (by decide) _ _ _ rfl r2 (some ⟨gl, at', none⟩) (i - at') (lc - at') ((I.drop at').map ixV) rfl ?e1 (by intro e; cases e) (by intro ad had j u hu; injection had with had; subst had; rw [Addr.add_lit]; exact N4.out j u hu) ?e4 ?e5 ?e6 ?e7 ?_))
       case e1 => simp; omega
       case e4 => intro u hu; obtain ⟨_, _, rfl⟩ := List.mem_map.1 hu; rfl
       case e5 => unfold maxLen; omega
       case e6 => omega
       case e7 => omega
       intro v3 w5 r3 g3 o3
       obtain ⟨vx, vy, rfl⟩ : ∃ vx vy, v3 = .slice vx (i + 1) vy := by
        obtain ⟨a, c, e⟩ := own_slice r3
        exact ⟨a, c, by first | (rw [e]; done) | (rw [e]; congr 1; omega)⟩
       have K5 : Kp (fun _ => False) w w5 := by
        have k3 : Kp (fun _ => False) w w3 := K2.grown g1 (fun k hk _ => by cases hk)
        have k4 : Kp (fun _ => False) w w4 := (k3.alloc _).grown g2 (fun k hk hlt => by have := (r1.lt k hk).1; omega)
        exact k4.grown g3 (fun k hk hlt => by have := (r2.lt k hk).1; omega)
       have R3 : Hid (w5.ownsRow w.heap.size 3 1 (.slice vx (i + 1) vy) (i + 1) ((ordIx ks (i + 1)).map ixV)) := by
        rw [HNX.out]
        have e1 : at' + 1 + (i - at') = i + 1 := by omega
        rw [List.map_append, List.map_cons, List.map_take, List.map_drop]
        try simp only [Nat.zero_add, List.nil_append, List.append_assoc, List.singleton_append, List.cons_append, List.map_take, List.map_drop] at r3
        rw [e1] at r3
        exact r3
       clear r1 r2 r3 g1 g2 g3 o1 o2 o3 nil2 rowW
       go_wp2
       go_roundg (ks.length - (i + 1))
       case measure => rw [HG.out]; omega
       case rel => exact ⟨i + 1, rfl, by omega, int_i64 (by omega), K5, R3.out⟩
     ·have hate : at' = i := by omega
      have FIN : Hid (at' = (I.takeWhile (fun j => decide (ks.getD j [] < ks.getD i []))).length) := by show _ = _; omega
      have RW := hide hrow
      have hcapl := own_cap hrow
      have d1 : decide ((at' : Int) < (i : Int)) = false := by simp; omega
      have hrow2 := hrow.2
      clear hat htw hrow
      rcases hrow2 with ⟨e1, e2⟩ | ⟨gl, cc, cur, e1, _⟩
      ·injection e1 with e3 e4 e5
       subst e3
       subst e2 e5
       have e6 : at' = 0 := hate
       subst e6
       clear e4 hate
       go_wp2
       go_quiet (fail)
       clear d1
       have hI : I = [] := List.eq_nil_of_length_eq_zero hix
       have hnx : ordIx ks 1 = [0] := by rw [ordIx, HII.out, hI]; rfl
       have HNX := hide hnx
       have hszw : w.heap.size ≤ wr.heap.size := K1.size
       have K2 : Kp (fun _ => False) w (wr.drewN (m + nq)) := K1.drewN _
       have nil2 := World.ownsRow_nil (wr.drewN (m + nq)) w.heap.size 3 1
       have HI := hide hI
       clear hI hnx
       go_wp2_with (at_builtin; refine wpList_append_own_at _ rfl _ _ 130 rfl w.heap.size 3 i0 (.int .i64 0) 1 8 Tryz.underlying130 hi hz0 hz1 hz2 rfl (by decide) _ _ _ rfl (nil2.alloc _) ⟨(wr.drewN (m + nq)).heap.size, 0, none⟩ 1 1 [ixV 0] rfl rfl ?b1 ?b2 ?b3 ?b4 ?b5 ?_)
       case b1 => exact cell_one_new _ _ _
       case b2 => intro u hu; simp at hu; subst hu; rfl
       case b3 => unfold maxLen; omega
       case b4 => omega
       case b5 => simp; omega
       intro v2 w4 r2 g2 _ o2
       obtain ⟨vb, vd, rfl⟩ : ∃ vb vd, v2 = .slice vb 1 vd := by
        obtain ⟨a, c, e⟩ := own_slice r2
        exact ⟨a, c, by rw [e]⟩
       have hsz4 := g2.size
       simp at hsz4
       go_wp2_with (at_builtin; refine wpList_append_any _ rfl _ _ 130 rfl w.heap.size 3 i0 (.int .i64 0) 1 8 Tryz.underlying130 hi hz0 hz1 hz2 rfl (by decide) _ _ _ rfl r2 none 0 0 [] rfl rfl (fun _ => ⟨rfl, rfl⟩) (fun _ h => by cases h) (fun _ h => by cases h) ?e5 ?e6 ?e7 ?_)
       case e5 => unfold maxLen; omega
       case e6 => omega
       case e7 => omega
       intro v3 w5 r3 g3 o3
       obtain ⟨vx, vy, rfl⟩ : ∃ vx vy, v3 = .slice vx 1 vy := by
        obtain ⟨a, c, e⟩ := own_slice r3
        exact ⟨a, c, by rw [e]⟩
       have K5 : Kp (fun _ => False) w w5 := by
        have k4 : Kp (fun _ => False) w w4 := (K2.alloc _).grown g2 (fun k hk _ => by cases hk)
        exact k4.grown g3 (fun k hk hlt => by have := (r2.lt k hk).1; omega)
       have R3 : Hid (w5.ownsRow w.heap.size 3 1 (.slice vx 1 vy) 1 ((ordIx ks 1).map ixV)) := by
        rw [HNX.out]
        exact r3
       clear r2 r3 g2 g3 o2 o3 nil2
       go_wp2
       go_roundg (ks.length - 1)
       case measure => rw [HG.out]; omega
       case rel => exact ⟨1, rfl, by omega, rfl, K5, R3.out⟩
      ·injection e1 with e3 e4 e5
       subst e3
       have hh := hide (And.intro e5 hate)
       clear e4 e5 hate
       go_wp2
       go_quiet (fail)
       clear d1
       have hal2 : at' ≤ lc := by have := hh.out; omega
       by_cases hce : lc = at'
       ·have hai : at' = i := by have := hh.out; omega
        clear hh
        subst hai
        subst hce
        have hnx : ordIx ks (lc + 1) = I.take lc ++ lc :: I.drop lc := by
         have q1 := tw_take (fun j => decide (ks.getD j [] < ks.getD lc [])) I
         have q2 := tw_drop (fun j => decide (ks.getD j [] < ks.getD lc [])) I
         rw [← FIN.out] at q1 q2
         rw [ordIx, HII.out, insIx, ← q1, ← q2]
        have HNX := hide hnx
        clear hnx
        have rowW : (wr.drewN (m + nq)).ownsRow w.heap.size 3 1 (.slice (some ⟨gl, 0, none⟩) lc lc) lc (I.map ixV) := RW.out
        have hcapl := own_cap rowW
        have hszw : w.heap.size ≤ wr.heap.size := K1.size
        have K2 : Kp (fun _ => False) w (wr.drewN (m + nq)) := K1.drewN _
        have nil2 := World.ownsRow_nil (wr.drewN (m + nq)) w.heap.size 3 1
        go_wp2_with (at_builtin; (refine wpList_append_any _ rfl _ _ 130 rfl w.heap.size 3 i0 (.int .i64 0) 1 8 Tryz.underlying130 hi hz0 hz1 hz2 rfl (by decide) _ _ _ rfl nil2 (some ⟨gl, 0, none⟩) lc lc ((I.take lc).map ixV) rfl ?a1 ?a2 ?a3 ?a4 ?a5 ?a6 ?a7 ?_))
        case a1 => simp; omega
        case a2 => intro e; cases e
        case a3 => intro ad had j u hu; injection had with had; subst had; rw [Addr.add_lit, Nat.zero_add]; refine own_cell rowW j u ?_; rw [List.map_take] at hu; exact (List.getElem?_take_of_lt (by rcases Nat.lt_or_ge j lc with q | q; exact q; rw [List.getElem?_eq_none (by simp; omega)] at hu; cases hu)).symm.trans hu
        case a4 => intro u hu; obtain ⟨_, _, rfl⟩ := List.mem_map.1 hu; rfl
        case a5 => unfold maxLen; omega
        case a6 => omega
        case a7 => exact hszw
        intro v1 w3 r1 g1 o1
        obtain ⟨va, vc, rfl⟩ : ∃ va vc, v1 = .slice va lc vc := by
         obtain ⟨a, c, e⟩ := own_slice r1
         exact ⟨a, c, by first | (rw [e]; done) | (rw [e]; simp)⟩
        have hsz3 : wr.heap.size ≤ w3.heap.size := g1.size
        go_wp2_with (at_builtin; refine wpList_append_own_at _ rfl _ _ 130 rfl w.heap.size 3 i0 (.int .i64 0) 1 8 Tryz.underlying130 hi hz0 hz1 hz2 rfl (by decide) _ _ _ rfl (r1.alloc _) ⟨w3.heap.size, 0, none⟩ 1 1 [ixV lc] rfl rfl ?b1 ?b2 ?b3 ?b4 ?b5 ?_)
        case b1 => exact cell_one_new _ _ _
        case b2 => intro u hu; simp at hu; subst hu; rfl
        case b3 => unfold maxLen; omega
        case b4 => omega
        case b5 => simp; omega
        intro v2 w4 r2 g2 _ o2
        obtain ⟨vb, vd, rfl⟩ : ∃ vb vd, v2 = .slice vb (lc + 1) vd := by
         obtain ⟨a, c, e⟩ := own_slice r2
         exact ⟨a, c, by first | (rw [e]; done) | (rw [e]; simp)⟩
        have hsz4 := g2.size
        simp at hsz4
        have hgl : gl < wr.heap.size := (rowW.lt gl rfl).2
        have ho1 : some gl ≠ (Value.slice va lc vc).ownBlock := by
         rcases o1 with o1 | o1
         ·rw [o1]; simp [Value.ownBlock]
         ·rw [o1]; simp; omega
        have hb3 : w3.heap[gl]? = (wr.drewN (m + nq)).heap[gl]? := g1.block gl hgl (by simp [Value.ownBlock])
        have hb4 : w4.heap[gl]? = (wr.drewN (m + nq)).heap[gl]? := (g2.block gl (by simp; omega) ho1).trans ((Below.heap_alloc _ _ _ (by omega)).trans hb3)
        have cells4 : ∀ j u, (I.map ixV)[j]? = some u → w4.cell? ⟨gl, j, none⟩ = some u := by
         intro j u hu
         rw [World.cell?_of_block (a := ⟨gl, j, none⟩) hb4]
         exact own_cell rowW j u hu
        have news4 : ∀ j u, ((I.drop lc).map ixV)[j]? = some u → w4.cell? ⟨gl, lc + j, none⟩ = some u := by
         intro j u hu
         refine cells4 (lc + j) u ?_
         rw [List.map_drop, List.getElem?_drop] at hu
         exact hu
        have N4 := hide news4
        clear cells4 news4 hb3 hb4 ho1
        go_wp2_with (at_builtin; (refine wpList_append_any _ rfl _ _ 130 rfl w.heap.size 3 i0 (.int .i64 0) 1 8 Tryz.underlying130 hi hz0 hz1 hz2 rfl (by decide) _ _ _ rfl r2 (some ⟨gl, 0, none⟩) 0 0 ((I.drop lc).map ixV) rfl ?e1 (by intro e; cases e) (by intro ad had j u hu; rw [List.getElem?_eq_none (by simp; omega)] at hu; cases hu) ?e4 ?e5 ?e6 ?e7 ?_))
        case e1 => simp; omega
        case e4 => intro u hu; obtain ⟨_, _, rfl⟩ := List.mem_map.1 hu; rfl
        case e5 => unfold maxLen; omega
        case e6 => omega
        case e7 => omega
        intro v3 w5 r3 g3 o3
        obtain ⟨vx, vy, rfl⟩ : ∃ vx vy, v3 = .slice vx (lc + 1) vy := by
         obtain ⟨a, c, e⟩ := own_slice r3
         exact ⟨a, c, by first | (rw [e]; done) | (rw [e]; congr 1; omega)⟩
        have K5 : Kp (fun _ => False) w w5 := by
         have k3 : Kp (fun _ => False) w w3 := K2.grown g1 (fun k hk _ => by cases hk)
         have k4 : Kp (fun _ => False) w w4 := (k3.alloc _).grown g2 (fun k hk hlt => by have := (r1.lt k hk).1; omega)
         exact k4.grown g3 (fun k hk hlt => by have := (r2.lt k hk).1; omega)
        have R3 : Hid (w5.ownsRow w.heap.size 3 1 (.slice vx (lc + 1) vy) (lc + 1) ((ordIx ks (lc + 1)).map ixV)) := by
         rw [HNX.out]
         rw [List.map_append, List.map_cons, List.map_take, List.map_drop]
         try simp only [Nat.zero_add, List.nil_append, List.append_assoc, List.singleton_append, List.cons_append, List.map_take, List.map_drop] at r3
         exact r3
        clear r1 r2 r3 g1 g2 g3 o1 o2 o3 nil2 rowW
        go_wp2
        go_roundg (ks.length - (lc + 1))
        case measure => rw [HG.out]; omega
        case rel => exact ⟨lc + 1, rfl, by omega, int_i64 (by omega), K5, R3.out⟩
       ·have q1 : i ≤ at' := by have := hh.out; omega
        have q2 : at' ≤ i := by have := hh.out; omega
        have hnx : ordIx ks (i + 1) = I.take at' ++ i :: I.drop at' := by
         have q1 := tw_take (fun j => decide (ks.getD j [] < ks.getD i [])) I
         have q2 := tw_drop (fun j => decide (ks.getD j [] < ks.getD i [])) I
         rw [← FIN.out] at q1 q2
         rw [ordIx, HII.out, insIx, ← q1, ← q2]
        have HNX := hide hnx
        clear hnx
        have rowW : (wr.drewN (m + nq)).ownsRow w.heap.size 3 1 (.slice (some ⟨gl, 0, none⟩) i lc) i (I.map ixV) := RW.out
        have hcapl := own_cap rowW
        have hszw : w.heap.size ≤ wr.heap.size := K1.size
        have K2 : Kp (fun _ => False) w (wr.drewN (m + nq)) := K1.drewN _
        have nil2 := World.ownsRow_nil (wr.drewN (m + nq)) w.heap.size 3 1
        go_wp2_with (at_builtin; (refine wpList_append_any _ rfl _ _ 130 rfl w.heap.size 3 i0 (.int .i64 0) 1 8 Tryz.underlying130 hi hz0 hz1 hz2 rfl (by decide) _ _ _ rfl nil2 (some ⟨gl, 0, none⟩) at' lc ((I.take at').map ixV) rfl ?a1 ?a2 ?a3 ?a4 ?a5 ?a6 ?a7 ?_))
        case a1 => simp; omega
        case a2 => intro e; cases e
        case a3 => intro ad had j u hu; injection had with had; subst had; rw [Addr.add_lit, Nat.zero_add]; refine own_cell rowW j u ?_; rw [List.map_take] at hu; exact (List.getElem?_take_of_lt (by rcases Nat.lt_or_ge j at' with q | q; exact q; rw [List.getElem?_eq_none (by simp; omega)] at hu; cases hu)).symm.trans hu
        case a4 => intro u hu; obtain ⟨_, _, rfl⟩ := List.mem_map.1 hu; rfl
        case a5 => unfold maxLen; omega
        case a6 => omega
        case a7 => exact hszw
        intro v1 w3 r1 g1 o1
        obtain ⟨va, vc, rfl⟩ : ∃ va vc, v1 = .slice va at' vc := by
         obtain ⟨a, c, e⟩ := own_slice r1
         exact ⟨a, c, by first | (rw [e]; done) | (rw [e]; simp)⟩
        have hsz3 : wr.heap.size ≤ w3.heap.size := g1.size
        go_wp2_with (at_builtin; refine wpList_append_own_at _ rfl _ _ 130 rfl w.heap.size 3 i0 (.int .i64 0) 1 8 Tryz.underlying130 hi hz0 hz1 hz2 rfl (by decide) _ _ _ rfl (r1.alloc _) ⟨w3.heap.size, 0, none⟩ 1 1 [ixV i] rfl rfl ?b1 ?b2 ?b3 ?b4 ?b5 ?_)
        case b1 => exact cell_one_new _ _ _
        case b2 => intro u hu; simp at hu; subst hu; rfl
        case b3 => unfold maxLen; omega
        case b4 => omega
        case b5 => simp; omega
        intro v2 w4 r2 g2 _ o2
        obtain ⟨vb, vd, rfl⟩ : ∃ vb vd, v2 = .slice vb (at' + 1) vd := by
         obtain ⟨a, c, e⟩ := own_slice r2
         exact ⟨a, c, by first | (rw [e]; done) | (rw [e]; simp)⟩
        have hsz4 := g2.size
        simp at hsz4
        have hgl : gl < wr.heap.size := (rowW.lt gl rfl).2
        have ho1 : some gl ≠ (Value.slice va at' vc).ownBlock := by
         rcases o1 with o1 | o1
         ·rw [o1]; simp [Value.ownBlock]
         ·rw [o1]; simp; omega
        have hb3 : w3.heap[gl]? = (wr.drewN (m + nq)).heap[gl]? := g1.block gl hgl (by simp [Value.ownBlock])
        have hb4 : w4.heap[gl]? = (wr.drewN (m + nq)).heap[gl]? := (g2.block gl (by simp; omega) ho1).trans ((Below.heap_alloc _ _ _ (by omega)).trans hb3)
        have cells4 : ∀ j u, (I.map ixV)[j]? = some u → w4.cell? ⟨gl, j, none⟩ = some u := by
         intro j u hu
         rw [World.cell?_of_block (a := ⟨gl, j, none⟩) hb4]
         exact own_cell rowW j u hu
        have news4 : ∀ j u, ((I.drop at').map ixV)[j]? = some u → w4.cell? ⟨gl, at' + j, none⟩ = some u := by
         intro j u hu
         refine cells4 (at' + j) u ?_
         rw [List.map_drop, List.getElem?_drop] at hu
         exact hu
        have N4 := hide news4
        clear cells4 news4 hb3 hb4 ho1
        go_wp2_with (at_builtin; (refine wpList_append_any _ rfl _ _ 130 rfl w.heap.size 3 i0 (.int .i64 0) 1 8 Tryz.underlying130 hi hz0 hz1 hz2 rfl (by decide) _ _ _ rfl r2 (some ⟨gl, at', none⟩) 0 (lc - at') ((I.drop at').map ixV) rfl ?e1 (by intro e; cases e) (by intro ad had j u hu; injection had with had; subst had; rw [Addr.add_lit]; exact N4.out j u hu) ?e4 ?e5 ?e6 ?e7 ?_))
        case e1 => simp; omega
        case e4 => intro u hu; obtain ⟨_, _, rfl⟩ := List.mem_map.1 hu; rfl
        case e5 => unfold maxLen; omega
        case e6 => omega
        case e7 => omega
        intro v3 w5 r3 g3 o3
        obtain ⟨vx, vy, rfl⟩ : ∃ vx vy, v3 = .slice vx (i + 1) vy := by
         obtain ⟨a, c, e⟩ := own_slice r3
         exact ⟨a, c, by first | (rw [e]; done) | (rw [e]; congr 1; omega)⟩
        have K5 : Kp (fun _ => False) w w5 := by
         have k3 : Kp (fun _ => False) w w3 := K2.grown g1 (fun k hk _ => by cases hk)
         have k4 : Kp (fun _ => False) w w4 := (k3.alloc _).grown g2 (fun k hk hlt => by have := (r1.lt k hk).1; omega)
         exact k4.grown g3 (fun k hk hlt => by have := (r2.lt k hk).1; omega)
        have R3 : Hid (w5.ownsRow w.heap.size 3 1 (.slice vx (i + 1) vy) (i + 1) ((ordIx ks (i + 1)).map ixV)) := by
         rw [HNX.out]
         have e1 : at' + 1 = i + 1 := by omega
         rw [List.map_append, List.map_cons, List.map_take, List.map_drop]
         try simp only [Nat.zero_add, List.nil_append, List.append_assoc, List.singleton_append, List.cons_append, List.map_take, List.map_drop] at r3
         rw [e1] at r3
         exact r3
        clear r1 r2 r3 g1 g2 g3 o1 o2 o3 nil2 rowW
        go_wp2
        go_roundg (ks.length - (i + 1))
        case measure => rw [HG.out]; omega
        case rel => exact ⟨i + 1, rfl, by omega, int_i64 (by omega), K5, R3.out⟩
   ·have hlt' : ¬ (i : Int) < (ks.length : Int) := by omega
    have : i = ks.length := by omega
    subst this
    go_wp2
    go_ret
    exact ⟨_, rfl, K1, hrow⟩
end Go.Proofs.YtocligpfmfmihaaGreatDoor
