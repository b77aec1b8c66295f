/- image: what the laws share: bytes held against each other, states copied, measured, the fixed answers (laid by genLaw2.py). Own work. -/
import Derived.Test.YtooclofdljampaaDoorMiK
import Derived.Test.YtooclofdljampaaDoorMiN
import Derived.Test.YtooclofdljampaaDoorLaidT
import Derived.Deep.DeepAppendWide
import Derived.Laws.OwnMore
import Derived.Deep.LoopGhost
set_option linter.unusedVariables false
set_option linter.unusedSimpArgs false
namespace Go.Proofs.YtooclofdljampaaDoor
open Go Go.RowKit

theorem wpList_bytesR {ops : Array Oper} {rest : List Oper} {o : Oper} {a : Act} {Q : Exit → Act → World → Prop} (w : World) (hgd : o.guard = none) (s x : Operand)
    (ho : o.op = .call { callee := .builtin .append, args := #[s, x], argTypes := #[30, 30] }) (base base' : Nat) (v : Value) (bs cs : List UInt8) (hs : a.eval s = v) (ad : Addr) (c : Nat)
    (hx : a.eval x = .slice (some ad) cs.length c) (how : Own w 5 base v bs) (hsx : Sl base' w (.slice (some ad) cs.length c) cs) (hbase : base ≤ w.heap.size) (hl : bs.length + cs.length ≤ 200000000000000)
    (hK : ∀ v' w', Own w' 5 base v' (bs ++ cs) → w.grownBy w' v.ownBlock → wpList Tryd.prog ops Q rest (a.put o.dst v') w') :
    wpList Tryd.prog ops Q (o :: rest) a w := by
  obtain ⟨i0, hi, hz0, hz1, hz2⟩ := info_parts Tryd.infoU8
  refine wpList_append_own_wide _ hgd s x 30 ho base 5 i0 (.int .u8 0) 1 1 Tryd.underlying30 hi hz0 hz1 hz2 rfl (by decide) v bs.length (Bv bs) hs how ad cs.length c (Bv cs) hx (by simp) ?_ (Bv_one cs) ?_ ?_ hbase ?_
  · intro j u hj
    obtain ⟨ao, cap, hv, _, _, hxx⟩ := hsx
    obtain ⟨b, o, rfl, _, ha⟩ := hxx (by rintro rfl; simp at hj)
    simp only [Value.slice.injEq] at hv
    obtain rfl := Option.some.inj hv.1
    exact ha.add j u hj
  · unfold maxLen; omega
  · omega
  · intro v' w' h1 h2 _
    exact hK v' w' (by simpa [Own] using h1) h2

theorem wpList_bytesR_any {ops : Array Oper} {rest : List Oper} {o : Oper} {a : Act} {Q : Exit → Act → World → Prop} (w : World) (hgd : o.guard = none) (s x : Operand)
    (ho : o.op = .call { callee := .builtin .append, args := #[s, x], argTypes := #[30, 30] }) (base base' : Nat) (v xv : Value) (bs cs : List UInt8) (hs : a.eval s = v)
    (hx : a.eval x = xv) (how : Own w 5 base v bs) (hsx : Sl base' w xv cs) (hbase : base ≤ w.heap.size) (hl : bs.length + cs.length ≤ 200000000000000)
    (hK : ∀ v' w', Own w' 5 base v' (bs ++ cs) → w.grownBy w' v.ownBlock → wpList Tryd.prog ops Q rest (a.put o.dst v') w') :
    wpList Tryd.prog ops Q (o :: rest) a w := by
  obtain ⟨ao, cap, rfl, hc, hn, hxx⟩ := hsx
  cases ao with
  | none =>
    obtain rfl := hn rfl
    have h0 : cs = [] := List.eq_nil_of_length_eq_zero (by omega)
    subst h0
    obtain ⟨i0, hi, hz0, hz1, hz2⟩ := info_parts Tryd.infoU8
    refine wpList_append_own_none hgd s x 30 ho base 5 i0 1 Tryd.underlying30 hi v bs.length (Bv bs) hs how hx (hK v w (by rw [List.append_nil]; exact how) (World.grownBy.refl w _))
  | some ad => exact wpList_bytesR w hgd s x ho base base' v bs cs hs ad cap hx how ⟨_, cap, rfl, hc, hn, hxx⟩ hbase hl hK

set_option maxHeartbeats 400000 in
theorem rsame_any (b1 b2 : Nat) (va vb : Value) (xs ys : List UInt8) (w : World) (ha : Sl b1 w va xs) (hb : Sl b2 w vb ys) (hl : xs.length ≤ 140737488355328) (hl2 : ys.length ≤ 140737488355328) :
    Calls Tryd.prog 19 #[va, vb] w fun e w' => e = .returned (.bool (decide (xs = ys))) ∧ ∃ n, w' = w.drewN n := by
  obtain ⟨q, hq⟩ : ∃ q, decide (xs = ys) = q := ⟨_, rfl⟩
  rw [hq]
  obtain ⟨ao, ac, rfl, _, _, hx⟩ := ha
  obtain ⟨bo, bc, rfl, _, _, hy⟩ := hb
  by_cases hlen : xs.length = ys.length
  · obtain ⟨N, hN⟩ : ∃ N, xs.length = N := ⟨_, rfl⟩
    have hN2 : ys.length = N := by rw [← hlen, hN]
    have HN : Hid (xs.length = N ∧ ys.length = N) := ⟨hN, hN2⟩
    have HQ : Hid (decide (xs = ys) = q) := hq
    have HX : Hid ((xs ≠ [] → ∃ b o, ao = some ⟨b, o, none⟩ ∧ b1 ≤ b ∧ At w b o xs) ∧ (ys ≠ [] → ∃ b o, bo = some ⟨b, o, none⟩ ∧ b2 ≤ b ∧ At w b o ys)) := ⟨hx, hy⟩
    rw [hN] at hl ⊢
    rw [hN2] at hl2 ⊢
    clear hlen hN hN2 hq hx hy hl2
    go_enter Tryd.func19, Tryd.ntmps19
    go_wp2
    go_loopg [5] N (fun g i wr => ∃ k : Nat, k ≤ N ∧ g = N - k ∧ i = .int .i64 k ∧ Hid ((∃ n, wr = w.drewN n) ∧ xs.take k = ys.take k))
    case atStart => exact ⟨0, by omega, rfl, rfl, ⟨0, rfl⟩, rfl⟩
    case round =>
      obtain ⟨k, hk, rfl, rfl, HR⟩ := hrel
      by_cases hlt : k < N
      · obtain ⟨hX, hY⟩ := HX.out
        have l1 : k < xs.length := by have := HN.out; omega
        have l2 : k < ys.length := by have := HN.out; omega
        obtain ⟨b, o, rfl, _, ha⟩ := hX (by rintro rfl; simp at l1)
        obtain ⟨b', o', rfl, _, hb⟩ := hY (by rintro rfl; simp at l2)
        have c1 := ha k l1
        have c2 := hb k l2
        have t1 := List.take_succ_eq_append_getElem l1
        have t2 := List.take_succ_eq_append_getElem l2
        obtain ⟨x, hxk⟩ : ∃ x, xs[k]'l1 = x := ⟨_, rfl⟩
        obtain ⟨y, hyk⟩ : ∃ y, ys[k]'l2 = y := ⟨_, rfl⟩
        obtain ⟨n0, hn0⟩ := HR.out.1
        have hup : Up w wr := by rw [hn0]; exact up_drewN _ _
        have HN0 : Hid (wr = w.drewN n0) := hn0
        clear hn0
        have HK : Hid (xs[k]? = some x ∧ ys[k]? = some y) := ⟨by rw [List.getElem?_eq_getElem l1, hxk], by rw [List.getElem?_eq_getElem l2, hyk]⟩
        rw [hxk] at c1 t1
        rw [hyk] at c2 t2
        have d1 : wr.cell? ⟨b, o + k, none⟩ = some (.int .u8 (x.toNat : Int)) := by rw [hup.cell (World.block_lt_of_cell? w _ c1)]; exact c1
        have d2 : wr.cell? ⟨b', o' + k, none⟩ = some (.int .u8 (y.toNat : Int)) := by rw [hup.cell (World.block_lt_of_cell? w _ c2)]; exact c2
        have Hlt : Hid (k < N) := hlt
        by_cases hxy : x = y
        · have Hst : Hid (xs.take (k + 1) = ys.take (k + 1)) := by show _ = _; rw [t1, t2, HR.out.2, hxy]
          subst hxy
          clear hX hY ha hb c1 c2 t1 t2 hxk hyk l1 l2 HK HR
          go_wp2_with fail
          go_quiet (fail)
          go_wp2
          go_roundg (N - (k + 1))
          case measure => have := Hlt.out; omega
          case rel => exact ⟨k + 1, Hlt.out, rfl, by go_num, ⟨n0 + nq, by rw [HN0.out, World.drewN_drewN]⟩, Hst.out⟩
        · have hfin : q = false := by
            rw [← HQ.out]
            refine decide_eq_false (fun h => hxy ?_)
            have hk := HK.out
            rw [h, hk.2] at hk
            exact (Option.some.inj hk.1).symm
          subst hfin
          have hne : ((x.toNat : Int) == (y.toNat : Int)) = false := by
            have : x.toNat ≠ y.toNat := fun h => hxy (UInt8.toNat_inj.1 h)
            simp only [beq_eq_false_iff_ne]; omega
          clear hX hY ha hb c1 c2 t1 t2 hxk hyk l1 l2 HK HR HQ hxy
          go_wp2_with fail
          go_quiet (fail)
          go_wp2
          go_ret
          exact ⟨rfl, n0 + nq, by rw [HN0.out, World.drewN_drewN]⟩
      · obtain rfl : k = N := by omega
        have hfin : q = true := by
          rw [← HQ.out]
          have h := HR.out.2
          rw [List.take_of_length_le (by rw [HN.out.1]; omega), List.take_of_length_le (by rw [HN.out.2]; omega)] at h
          exact decide_eq_true h
        subst hfin
        have hup := show Hid _ from HR.out.1
        clear HR HQ HN HX
        go_wp2
        go_ret
        exact ⟨rfl, hup.out⟩
  · have hfin : q = false := by rw [← hq]; exact decide_eq_false (fun h => hlen (by rw [h]))
    subst hfin
    obtain ⟨N, hN⟩ : ∃ N, xs.length = N := ⟨_, rfl⟩
    obtain ⟨M, hM⟩ : ∃ M, ys.length = M := ⟨_, rfl⟩
    rw [hN] at hlen hl ⊢
    rw [hM] at hlen hl2 ⊢
    have hne : ((N : Int) == (M : Int)) = false := by simp only [beq_eq_false_iff_ne]; omega
    clear hN hM hq hx hy hlen
    go_enter Tryd.func19, Tryd.ntmps19
    go_wp2
    go_ret
    exact ⟨rfl, 0, rfl⟩

theorem drewR_up {w w' : World} (h : ∃ n, w' = w.drewN n) : Up w w' := by
  obtain ⟨n, rfl⟩ := h
  exact up_drewN _ _
/-- A row that was made empty. -/
theorem own_none (w : World) : Own (w.alloc (.cells #[] 5)) 5 w.heap.size (.slice (some ⟨w.heap.size, 0, none⟩) 0 0) [] :=
  ⟨rfl, .inr ⟨w.heap.size, 0, #[], rfl, Nat.le_refl _, heap_alloc_new _ _, Nat.le_refl _, by unfold maxLen; omega, rfl, rfl⟩⟩
/-- Behind an append to a row made since w0: all that is old stays. -/
theorem grownR_up {w0 w w' : World} {base : Nat} {v : Value} {bs : List UInt8} (h : Up w0 w) (ho : Own w 5 base v bs) (hb : w0.heap.size ≤ base) (hg : w.grownBy w' v.ownBlock) : Up w0 w' :=
  Below.grown h hg h.size (fun k hk => Nat.le_trans hb (World.ownsRow.lt ho k hk).1)


theorem wp_app_noneI {o : Oper} {a : Act} {w : World} {K : Act → World → Prop} {Q : Exit → Act → World → Prop} (s x : Operand) (t : TypeId)
    (ho : o.op = .call { callee := .builtin .append, args := #[s, x], argTypes := #[t, t] })
    (base : Nat) (e : TypeId) (i : TypeInfo) (size : Nat) (ht : Tryd.prog.underlying t = some (.slice e)) (hi : Tryd.prog.info? e = some i)
    (v : Value) (n : Nat) (xs : List Value) (hs : a.eval s = v) (hown : w.ownsRow base e size v n xs) (hx : a.eval x = .slice none 0 0)
    (h : K (a.put o.dst v) w) : o.wp Tryd.prog a w K Q := by
  have hrun := run_append_owned_none (P := Tryd.prog) (w := w) base t o.type e i size ht hi v n xs hown
  unfold Oper.wp
  simp [execOp, ho, resolve, invoke, builtin, hs, hx, hrun, Result.andThen]
  exact h
theorem wp_entsE {o : Oper} {a : Act} {K : Act → World → Prop} {Q : Exit → Act → World → Prop} (w : World) (s x : Operand)
    (ho : o.op = .call { callee := .builtin .append, args := #[s, x], argTypes := #[27, 27] }) (base : Nat) (v vx : Value) (xs ys : List Ent) (hs : a.eval s = v)
    (hx : a.eval x = vx) (how : OwnE w base v xs) (hsx : SlE w vx ys) (hbase : base ≤ w.heap.size) (hl : xs.length + ys.length ≤ 1759218604390)
    (hK : ∀ v' w', OwnE w' base v' (xs ++ ys) → w.grownBy w' v.ownBlock → K (a.put o.dst v') w') : o.wp Tryd.prog a w K Q := by
  obtain ⟨i0, hi, hz0, hz1, hz2⟩ := info_parts Tryd.infoEntI
  obtain ⟨ao, c, rfl, hc, hn, hxx⟩ := hsx
  cases ao with
  | none =>
    have h0 := hn rfl
    subst h0
    have h1 : ys = [] := List.eq_nil_of_length_eq_zero (by omega)
    subst h1
    exact wp_app_noneI s x 27 ho base 50 i0 9 Tryd.underlying27 hi v xs.length (Ecs xs) hs how hx (hK v w (by rw [List.append_nil]; exact how) (World.grownBy.refl w _))
  | some ad =>
    refine wp_append_own_wide w s x 27 ho base 50 i0 _ 9 80 Tryd.underlying27 hi hz0 hz1 hz2 rfl (by decide) v xs.length (Ecs xs) hs how ad ys.length c (Ecs ys) hx (Ecs_length ys) ?_ (Ecs_one ys) ?_ ?_ hbase ?_
    · intro j u hj
      have hne : ys ≠ [] := by rintro rfl; simp [Ecs] at hj
      obtain ⟨b, o, e, ha⟩ := hxx hne
      obtain rfl := Option.some.inj e
      rw [Addr.add_lit]
      exact ha j u hj
    · unfold maxLen; omega
    · omega
    · intro v' w' h1 h2 _
      exact hK v' w' (by unfold OwnE; rw [List.length_append, Ecs_app]; exact h1) h2

set_option maxRecDepth 20000 in
set_option maxHeartbeats 1600000 in
theorem copied_any (v : Value) (l f : Nat) (xs : List Ent) (w : World) (h : SlE w v xs) (hl : xs.length ≤ 1759218604390) :
    Calls Tryd.prog 14 #[.agg #[V l, V f, v]] w fun e w' => ∃ v', e = .returned (.agg #[V l, V f, v']) ∧ OwnE w' w.heap.size v' xs ∧ Up w w' := by
  have HS : Hid (SlE w v xs ∧ xs.length ≤ 1759218604390) := ⟨h, hl⟩
  obtain ⟨ao, cap, rfl⟩ := h.shape
  obtain ⟨N, hN⟩ : ∃ N, xs.length = N := ⟨_, rfl⟩
  rw [hN] at HS ⊢
  have HN : Hid (xs.length = N) := hN
  clear h hl hN
  have b0 : Box ((w.alloc (.cells #[V l, V f, .slice ao N cap] 29)).alloc (.cells #[V 0, V 0, .slice none 0 0] 29)) w.heap.size #[V l, V f, .slice ao N cap] := (Box.new _ _ _).alloc _
  have b1 : Box ((w.alloc (.cells #[V l, V f, .slice ao N cap] 29)).alloc (.cells #[V 0, V 0, .slice none 0 0] 29)) (w.heap.size + 1) #[V 0, V 0, .slice none 0 0] := Box.newAt (by simp)
  have u0 : Up w ((w.alloc (.cells #[V l, V f, .slice ao N cap] 29)).alloc (.cells #[V 0, V 0, .slice none 0 0] 29)) := (Up.alloc _ _).trans (Up.alloc _ _)
  obtain ⟨B, hB⟩ : ∃ B, w.heap.size = B := ⟨_, rfl⟩
  go_enter Tryd.func14, Tryd.ntmps14
  go_upto_region 1 with fail
  generalize (w.alloc (.cells #[V l, V f, .slice ao N cap] 29)).alloc (.cells #[V 0, V 0, .slice none 0 0] 29) = w0 at *
  try rw [hB] at b0
  try rw [hB] at b1
  have HB : Hid (w.heap.size = B) := hB
  have hs : Box w0.drew B #[V l, V f, .slice ao N cap] := b0.up (Up.drew w0)
  replace b1 := b1.up (Up.drew w0)
  have U0 := u0.trans (Up.drew w0)
  clear u0 b0 hB
  refine wp_region_held_drew (S := fun u => Box u B #[V l, V f, .slice ao N cap]) (by kernel_rfl) hs (fun hs0 => ?_)
  clear hs0
  generalize w0.drew = wd at *
  have hzw := b1.lt
  refine take_to (some 3) (i := 0) (v := .pointer (some ⟨B, 0, none⟩)) rfl rfl (by kernel_rfl) (by kernel_rfl) (by kernel_rfl) (fun _ _ _ h => h) (Or.inl ⟨by kernel_rfl, by intro u hSu; go_simp⟩) hs ?_
  simp only [Act.put, List.setIfInBounds_toArray, List.set_cons_zero, List.set_cons_succ]
  refine take_to (some 4) (i := 1) (v := V l) rfl rfl (by kernel_rfl) (by kernel_rfl) (by kernel_rfl) (fun _ _ _ h => h) (Or.inl ⟨by kernel_rfl, by intro u hSu; obtain ⟨s0, s1, s2⟩ := Box.c3 hSu; go_simp⟩) hs ?_
  simp only [Act.put, List.setIfInBounds_toArray, List.set_cons_zero, List.set_cons_succ]
  refine take_to (some 5) (i := 2) (v := .pointer (some ⟨B, 1, none⟩)) rfl rfl (by kernel_rfl) (by kernel_rfl) (by kernel_rfl) (fun _ _ _ h => h) (Or.inl ⟨by kernel_rfl, by intro u hSu; go_simp⟩) hs ?_
  simp only [Act.put, List.setIfInBounds_toArray, List.set_cons_zero, List.set_cons_succ]
  refine take_to (some 6) (i := 3) (v := V f) rfl rfl (by kernel_rfl) (by kernel_rfl) (by kernel_rfl) (fun _ _ _ h => h) (Or.inl ⟨by kernel_rfl, by intro u hSu; obtain ⟨s0, s1, s2⟩ := Box.c3 hSu; go_simp⟩) hs ?_
  simp only [Act.put, List.setIfInBounds_toArray, List.set_cons_zero, List.set_cons_succ]
  refine take_to (some 8) (i := 5) (v := .pointer (some ⟨B, 2, none⟩)) rfl rfl (by kernel_rfl) (by kernel_rfl) (by kernel_rfl) (fun _ _ _ h => h) (Or.inl ⟨by kernel_rfl, by intro u hSu; go_simp⟩) hs ?_
  simp only [Act.put, List.setIfInBounds_toArray, List.set_cons_zero, List.set_cons_succ]
  refine take_to (some 9) (i := 6) (v := .slice ao N cap) rfl rfl (by kernel_rfl) (by kernel_rfl) (by kernel_rfl) (fun _ _ _ h => h) (Or.inl ⟨by kernel_rfl, by intro u hSu; obtain ⟨s0, s1, s2⟩ := Box.c3 hSu; go_simp⟩) hs ?_
  simp only [Act.put, List.setIfInBounds_toArray, List.set_cons_zero, List.set_cons_succ]
  refine wpAnyH_ready (rs := [4]) (by kernel_rfl) (by simp) ?_
  refine AllReadyH.cons rfl (fun K hK => ?_) AllReadyH.nil
  go_simp
  have u1 : Up wd (wd.alloc (.cells #[] 50)) := Up.alloc _ _
  have on : OwnE (wd.alloc (.cells #[] 50)) wd.heap.size (.slice (some ⟨wd.heap.size, 0, none⟩) 0 0) [] := OwnE.mk (cur := #[]) (Nat.le_refl _) (heap_alloc_new _ _) (Nat.le_refl _) (by unfold maxLen; omega) rfl rfl
  replace hs := hs.up u1
  replace b1 := b1.up u1
  have hzd := b1.lt
  have U1 := U0.trans u1
  have hz1 := u1.size
  have hbd := U0.size
  refine hK.out _ _ hs (fun _ => ?_)
  clear hK K
  generalize wd.alloc (.cells #[] 50) = w1 at *
  refine wpAnyH_ready (rs := [7]) (by kernel_rfl) (by simp) ?_
  refine AllReadyH.cons rfl (fun K hK => ?_) AllReadyH.nil
  refine wp_entsE w1 (.tmp 7) (.tmp 9) rfl wd.heap.size _ _ [] xs rfl rfl on ?_ hz1 ?_ ?_
  · have := HS.out.1.up U1
    exact this
  · have h1 := HS.out.2; have h2 := HN.out; simp only [List.length_nil]; omega
  intro v2 w2 o2 g2
  rw [List.nil_append] at o2
  have t2 : Touch w1 w2 [wd.heap.size] := Touch.of_grown g2 (fun j e => by simp only [Value.ownBlock] at e; cases e; simp)
  have hBl : B + 1 < wd.heap.size := hzw
  have b2 := Touch.box b1 t2 (by simp only [List.mem_singleton]; omega)
  replace hs := Touch.box hs t2 (by simp only [List.mem_singleton]; omega)
  have U2 : Up w w2 := Below.trans U1 (t2.below (fun j hj => by simp only [List.mem_singleton] at hj; have := HB.out; omega) U1.size)
  obtain ⟨a2, n2, c2, rfl⟩ : ∃ a n c, v2 = .slice a n c := by obtain ⟨a, c, e⟩ := o2.shape; exact ⟨_, _, _, e⟩
  refine hK.out _ _ hs (fun _ => ?_)
  clear hK K
  try simp only [Act.put, List.setIfInBounds_toArray, List.set_cons_zero, List.set_cons_succ]
  refine take_to (some 11) (i := 8) (v := .agg #[V l, V f, .slice a2 n2 c2]) rfl rfl (by kernel_rfl) (by kernel_rfl) (by kernel_rfl) (fun _ _ _ h => h) (Or.inl ⟨by kernel_rfl, by intro u hSu; go_simp⟩) hs ?_
  simp only [Act.put, List.setIfInBounds_toArray, List.set_cons_zero, List.set_cons_succ]
  refine wpAnyH_ready (rs := [9]) (by kernel_rfl) (by simp) ?_
  refine AllReadyH.cons rfl (fun K hK => ?_) AllReadyH.nil
  obtain ⟨q0, q1, q2⟩ := b2.c3
  have fz := b2.frozen
  go_simp
  have b3 := b2.set3 (x := V l) (y := V f) (z := .slice a2 n2 c2)
  have t3 := ((((Touch.refl w2 [B + 1]).setCell (k := B + 1) (.inl (by simp)) 0 (V l)).setCell (k := B + 1) (.inl (by simp)) 1 (V f)).setCell (k := B + 1) (.inl (by simp)) 2 (.slice a2 n2 c2))
  replace hs := Touch.box hs t3 (by simp only [List.mem_singleton]; omega)
  have hge := o2.ge
  have o3 := o2.kept t3 (fun j hj => by have := (hge j hj).1; simp only [List.mem_singleton]; omega)
  have U3 : Up w _ := Below.trans U2 (t3.below (fun j hj => by simp only [List.mem_singleton] at hj; have := HB.out; omega) U2.size)
  refine hK.out _ _ hs (fun _ => ?_)
  clear hK K
  refine wpAnyH_done (by kernel_rfl) ?_ _
  clear q0 q1 q2 fz b2 t3 hs o2 hge
  generalize World.setCell _ _ _ = w9 at *
  go_wp2
  obtain ⟨q0, q1, q2⟩ := b3.c3
  exact bodyPost_ret (v := .agg #[V l, V f, .slice a2 n2 c2]) (by simp [results, Tryd.results14, go_sem, q0, q1, q2]) rfl ⟨_, rfl, o3.rebase (by omega), U3⟩

/-- Some truth value is answered. -/
def SomeB (e : Ending) : Prop := ∃ q : Bool, e = .returned (.bool q)
theorem someB (q : Bool) : SomeB (.returned (.bool q)) := ⟨q, rfl⟩
set_option maxRecDepth 20000 in
set_option maxHeartbeats 1600000 in
theorem wide_any (v : Value) (l f : Nat) (xs : List Ent) (w : World) (h : SlE w v xs) (hl : xs.length ≤ 1759218604390) :
    Calls Tryd.prog 12 #[.agg #[V l, V f, v]] w fun e w' => SomeB e ∧ Up w w' := by
  obtain ⟨ao, cap, rfl, _, _, hx⟩ := h
  obtain ⟨N, hN⟩ : ∃ N, xs.length = N := ⟨_, rfl⟩
  have HN : Hid (xs.length = N) := hN
  have HX : Hid (xs ≠ [] → ∃ b o, ao = some ⟨b, o, none⟩ ∧ EntsAt w b o xs) := hx
  rw [hN] at hl ⊢
  clear hN hx
  have hl1 : (N : Int) ≤ 1759218604390 := by omega
  have b0 : Box (w.alloc (.cells #[V l, V f, .slice ao N cap] 29)) w.heap.size #[V l, V f, .slice ao N cap] := Box.new _ _ _
  have u0 : Up w (w.alloc (.cells #[V l, V f, .slice ao N cap] 29)) := Up.alloc _ _
  go_enter Tryd.func12, Tryd.ntmps12
  go_upto_region 1 with fail
  generalize w.alloc (.cells #[V l, V f, .slice ao N cap] 29) = w0 at *
  generalize w.heap.size = B at *
  have HB0 : Hid (Up w w0 ∧ Box w0 B #[V l, V f, .slice ao N cap]) := ⟨u0, b0⟩
  clear b0 u0
  go_wp2
  go_loopg [3, 4] N (fun g s3 s4 wr => ∃ (k : Nat) (m : Int), k ≤ N ∧ g = N - k ∧ s3 = .int .i64 m ∧ s4 = .int .i64 k ∧ Hid (wr = w0))
  case atStart => exact ⟨0, 0, by omega, rfl, rfl, rfl, rfl⟩
  case round =>
    obtain ⟨k, m, hk, rfl, rfl, rfl, HR⟩ := hrel
    obtain rfl : wr = w0 := HR.out
    obtain ⟨s0, s1, s2⟩ := HB0.out.2.c3
    by_cases hlt : k < N
    · have hm : k < xs.length := by rw [HN.out]; exact hlt
      obtain ⟨b, o, rfl, ha⟩ := HX.out (by rintro rfl; simp at hm)
      have c0 := ((ha.block fun hl => HB0.out.1.block b hl).at k hm).1
      have HK : Hid (N - (k + 1) < N - k ∧ k + 1 ≤ N) := ⟨by omega, hlt⟩
      generalize xs[k].1 = S at c0
      clear ha hm
      have hlt2 : (k : Int) < (N : Int) := by omega
      have g0 : decide ((k : Int) < (N : Int)) = true := decide_eq_true hlt2
      by_cases h1 : m ≤ 16777216
      · have g1 : decide (m ≤ 16777216) = true := decide_eq_true h1
        by_cases h2 : (k : Int) ≤ 1048576
        · have g2 : decide ((k : Int) ≤ 1048576) = true := decide_eq_true h2
          go_wp2
          go_roundg (N - (k + 1))
          case measure => exact HK.out.1
          case rel => exact ⟨k + 1, _, HK.out.2, rfl, rfl, by go_num, rfl⟩
        · have g2 : decide ((k : Int) ≤ 1048576) = false := decide_eq_false h2
          by_cases h4 : (N : Int) > 1048576
          · have g4 : decide ((N : Int) > 1048576) = true := decide_eq_true h4
            go_wp2
            go_ret
            exact ⟨someB _, HB0.out.1⟩
          · exact absurd h4 (by omega)
      · have g1 : decide (m ≤ 16777216) = false := decide_eq_false h1
        by_cases h4 : (N : Int) > 1048576
        · have g4 : decide ((N : Int) > 1048576) = true := decide_eq_true h4
          go_wp2
          go_ret
          exact ⟨someB _, HB0.out.1⟩
        · have g4 : decide ((1048576 : Int) < (N : Int)) = false := decide_eq_false h4
          by_cases h5 : m > 16777216
          · have g5 : decide ((16777216 : Int) < m) = true := decide_eq_true h5
            go_wp2
            go_ret
            exact ⟨someB _, HB0.out.1⟩
          · exact absurd h5 (by omega)
    · have hlt2 : ¬ (k : Int) < (N : Int) := by omega
      have g0 : decide ((k : Int) < (N : Int)) = false := decide_eq_false hlt2
      by_cases h4 : (N : Int) > 1048576
      · have g4 : decide ((N : Int) > 1048576) = true := decide_eq_true h4
        go_wp2
        go_ret
        exact ⟨someB _, HB0.out.1⟩
      · have g4 : decide ((1048576 : Int) < (N : Int)) = false := decide_eq_false h4
        by_cases h5 : m > 16777216
        · have g5 : decide ((16777216 : Int) < m) = true := decide_eq_true h5
          go_wp2
          go_ret
          exact ⟨someB _, HB0.out.1⟩
        · have g5 : decide ((16777216 : Int) < m) = false := decide_eq_false h5
          go_wp2
          go_ret
          exact ⟨someB _, HB0.out.1⟩

/-- The errors that the laws know. -/
abbrev imErrs : List Nat := [0, 1, 2, 3]
/-- What the laws know of memory. -/
structure IKn (w : World) (ad : Nat → Addr) : Prop where
  tb : Tb w
  er : ErrSet imErrs errTxt w ad
theorem IKn.up {w w' : World} {ad : Nat → Addr} (h : IKn w ad) (u : Up w w') : IKn w' ad := ⟨h.tb.up u, h.er.up u⟩
theorem im_sub : ∀ g ∈ imErrs, g ∈ allErrs := by decide
theorem IKn.gA {w : World} {ad : Nat → Addr} (h : IKn w ad) : Gl w 0 (ad 0) := (h.er _ (by simp)).1
theorem IKn.gS {w : World} {ad : Nat → Addr} (h : IKn w ad) : Gl w 1 (ad 1) := (h.er _ (by simp)).1
theorem IKn.gF {w : World} {ad : Nat → Addr} (h : IKn w ad) : Gl w 2 (ad 2) := (h.er _ (by simp)).1
theorem IKn.gU {w : World} {ad : Nat → Addr} (h : IKn w ad) : Gl w 3 (ad 3) := (h.er _ (by simp)).1
theorem IKn.ne {w : World} {ad : Nat → Addr} (h : IKn w ad) (g k : Nat) (hg : g ∈ imErrs) (hk : k ∈ imErrs) (hne : g ≠ k) : (binOp .eql 35 (E (ad g)) (E (ad k))).run Tryd.prog w = .ok (.bool false) w :=
  eq_other (h.er g hg).2 (h.er k hk).2 (errTxt_unlike g (im_sub g hg) k (im_sub k hk) hne)

abbrev wantE : Ent := (⟨#[107]⟩, ⟨1, 10, 30, 0, 0⟩, ⟨140, 0, 0⟩)
abbrev wantS : StV := ⟨7, 100, [wantE]⟩
theorem want_ok : okS wantS = true := by decide +kernel
theorem want_64 : St64 wantS := ⟨by decide, by decide, fun e he => by
  obtain rfl : e = wantE := by simpa using he
  constructor <;> decide⟩
theorem want_bytes : (imgB wantS).length = 56 ∧ (imgB wantS)[0]? = some 84 ∧ (imgB wantS)[4]? = some 7 ∧ (imgB wantS)[52]? = some 16 ∧ (imgB wantS)[55]? = some 156 := by decide +kernel
theorem sl_at {w : World} {base : Nat} {v : Value} {bs : List UInt8} (h : Sl base w v bs) {b o n c : Nat} (hv : v = .slice (some ⟨b, o, none⟩) n c) (i : Nat) (x : UInt8) (hx : bs[i]? = some x) : w.cell? ⟨b, o + i, none⟩ = some (B x) := by
  obtain ⟨ao, cap, rfl, _, _, hxx⟩ := h
  obtain ⟨hi, rfl⟩ := List.getElem?_eq_some_iff.1 hx
  obtain ⟨b', o', rfl, _, ha⟩ := hxx (by rintro rfl; simp at hi)
  simp only [Value.slice.injEq, Option.some.injEq, Addr.mk.injEq] at hv
  obtain ⟨⟨rfl, rfl, _⟩, _⟩ := hv
  exact ha i hi
abbrev wantC : Array Value := #[.string ⟨#[107]⟩, .int .i64 1, .int .u64 10, .int .u64 30, .int .u64 0, .int .u64 0, .int .u64 140, .int .u64 0, .int .u64 0]
set_option maxRecDepth 20000 in
set_option maxHeartbeats 3200000 in
theorem awake_any (w : World) (ad : Nat → Addr) (hk : IKn w ad) : Calls Tryd.prog 9 #[] w fun e w' => e = .returned (.bool true) ∧ Up w w' := by
  have HK : Hid (IKn w ad) := hk
  have u0 : Up w (w.alloc (.cells wantC 50)) := Up.alloc _ _
  have r0 : Box (w.alloc (.cells wantC 50)) w.heap.size wantC := Box.new _ _ _
  have z0 : (w.alloc (.cells wantC 50)).heap.size = w.heap.size + 1 := by simp
  have b0 : Box ((w.alloc (.cells wantC 50)).alloc (.cells #[.int .u64 7, .int .u64 100, .slice (some ⟨w.heap.size, 0, none⟩) 1 1] 29)) (w.heap.size + 1) #[.int .u64 7, .int .u64 100, .slice (some ⟨w.heap.size, 0, none⟩) 1 1] := Box.newAt z0
  have u1 : Up w ((w.alloc (.cells wantC 50)).alloc (.cells #[.int .u64 7, .int .u64 100, .slice (some ⟨w.heap.size, 0, none⟩) 1 1] 29)) := u0.trans (Up.alloc _ _)
  replace r0 := r0.alloc (.cells #[.int .u64 7, .int .u64 100, .slice (some ⟨w.heap.size, 0, none⟩) 1 1] 29)
  clear u0 z0 hk
  go_enter Tryd.func9, Tryd.ntmps9
  go_upto_region 2 with fail
  generalize (w.alloc (.cells wantC 50)).alloc (.cells #[.int .u64 7, .int .u64 100, .slice (some ⟨w.heap.size, 0, none⟩) 1 1] 29) = w0 at *
  generalize w.heap.size = k at *
  have sE : ∀ u, Box u k wantC → SlE u (.slice (some ⟨k, 0, none⟩) 1 1) [wantE] := fun u hb => ⟨_, _, rfl, Nat.le_refl _, (by intro e; cases e), fun _ => ⟨_, _, rfl, EntsAt.of fun i hi => by
    obtain rfl : i = 0 := by simp at hi; omega
    exact hb.c9⟩⟩
  have hE := Encode_ok (.slice (some ⟨k, 0, none⟩) 1 1) 7 100 [wantE] w0 (sE _ r0) (HK.out.up u1).tb want_64 want_ok
  have HW : Hid ((imgB wantS).length = 56 ∧ (imgB wantS)[0]? = some 84 ∧ (imgB wantS)[4]? = some 7 ∧ (imgB wantS)[52]? = some 16 ∧ (imgB wantS)[55]? = some 156) := want_bytes
  have HD : Hid (decI (imgB wantS) = .ok wantS) := decI_img want_ok want_64
  generalize imgB wantS = IMG at hE HW HD
  obtain ⟨c0, c1, c2⟩ := b0.c3
  go_wp2_with fail
  refine hE.mono ?_
  rintro e w1 ⟨v1, rfl, o1, u2⟩
  have U2 := u1.trans u2
  have R2 := r0.up u2
  have B2 := b0.up u2
  have s1 := own_z o1
  have s1' := s1
  obtain ⟨ao, cp, rfl, _, _, hxx⟩ := s1
  obtain ⟨b, o, rfl, _, _⟩ := hxx (by rintro rfl; have := HW.out.1; simp at this)
  rw [HW.out.1] at s1' o1 ⊢
  have q0 : w1.cell? ⟨b, o, none⟩ = some (.int .u8 84) := sl_at s1' rfl 0 84 HW.out.2.1
  have q1 : w1.cell? ⟨b, o + 4, none⟩ = some (.int .u8 7) := sl_at s1' rfl 4 7 HW.out.2.2.1
  have q2 : w1.cell? ⟨b, o + 52, none⟩ = some (.int .u8 16) := sl_at s1' rfl 52 16 HW.out.2.2.2.1
  have q3 : w1.cell? ⟨b, o + 55, none⟩ = some (.int .u8 156) := sl_at s1' rfl 55 156 HW.out.2.2.2.2
  have K1 := HK.out.up U2
  have hD := Decode_any s1' (by rw [HW.out.1]; omega) K1.tb K1.gS K1.gF K1.gU
  rw [HD.out] at hD
  clear c0 c1 c2 hE u2 r0 b0 u1 hxx
  go_wp2_with fail
  refine hD.mono ?_
  rintro e w2 ⟨⟨vk, rfl, ok⟩, u3⟩
  simp only at ok
  have B3 := B2.up u3
  have R3 := R2.up u3
  have U3 := U2.trans u3
  have sk := ok.sl
  obtain ⟨ak, ck, rfl⟩ := ok.shape
  have B4 := B3.up (Up.alloc w2 (.cells #[.int .u64 7, .int .u64 100, .slice ak 1 ck] 29))
  have N4 : Box (w2.alloc (.cells #[.int .u64 7, .int .u64 100, .slice ak 1 ck] 29)) w2.heap.size #[.int .u64 7, .int .u64 100, .slice ak 1 ck] := Box.new _ _ _
  have u4 : Up w2 (w2.alloc (.cells #[.int .u64 7, .int .u64 100, .slice ak 1 ck] 29)) := Up.alloc _ _
  have hA := alike_self (.slice ak 1 ck) (.slice (some ⟨k, 0, none⟩) 1 1) 7 100 [wantE] _ (sk.up u4) (sE _ (R3.up u4)) (by simp)
  obtain ⟨c0, c1, c2⟩ := B4.c3
  obtain ⟨d0, d1, d2⟩ := N4.c3
  clear q0 q1 q2 q3 B2 R2 B3 R3 hD ok s1' o1 B4 N4 sk
  go_wp2_with fail
  refine hA.mono ?_
  rintro e w5 ⟨rfl, u5⟩
  go_wp2
  go_ret
  exact ⟨rfl, (U3.trans u4).trans u5⟩
end Go.Proofs.YtooclofdljampaaDoor
