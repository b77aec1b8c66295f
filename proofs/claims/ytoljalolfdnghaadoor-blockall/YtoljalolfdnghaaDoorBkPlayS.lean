/- block: what the law's plays answers to Scan. -/
import Derived.Test.YtoljalolfdnghaaDoorBkPlayD
import Derived.Deep.DeepCutAuto
set_option linter.unusedVariables false
set_option linter.unusedSimpArgs false
namespace Go.Proofs.YtoljalolfdnghaaDoor
open Go Go.RowKit

theorem Tryd.infoInt : (Tryd.prog.info? 3).map (fun i => (i.zero, i.size, i.bytes)) = some (some (.int .i64 0), 1, 8) := by kernel_rfl
abbrev Iv (zs : List Int) : List Value := zs.map fun z => .int .i64 z
/-- An own row of ints. -/
def OwnI (w : World) (base : Nat) (v : Value) (zs : List Int) : Prop := w.ownsRow base 3 1 v zs.length (Iv zs)
theorem types_apart {w : World} {b b' n m s s' : Nat} {T T' : TypeId} (hT : T ≠ T') {v u : Value} {xs ys : List Value} {g : Nat} (h : w.ownsRow b T s v n xs) (k : w.ownsRow b' T' s' u m ys) (hv : v.ownBlock = some g) : u.ownBlock ≠ some g := by
  intro hu
  obtain ⟨_, ⟨rfl, _⟩ | ⟨g1, cap, cur, rfl, hb, hg, _⟩⟩ := h
  · cases hv
  · obtain ⟨_, ⟨rfl, _⟩ | ⟨g2, cap2, cur2, rfl, hb2, hg2, _⟩⟩ := k
    · cases hu
    · cases hv
      cases hu
      rw [hg] at hg2
      simp at hg2
      exact hT hg2.2
theorem own_builtI (w : World) : OwnI (w.alloc (.cells #[] 3)) w.heap.size (.slice (some ⟨w.heap.size, 0, none⟩) 0 0) [] :=
  ⟨by simp, .inr ⟨w.heap.size, 0, _, rfl, Nat.le_refl _, heap_alloc_new _ _, Nat.le_refl _, by unfold maxLen; omega, by simp, by simp⟩⟩
theorem OwnI.sli {w : World} {base : Nat} {v : Value} {zs : List Int} (h : OwnI w base v zs) : SlI w v zs := by
  obtain ⟨hl, ⟨rfl, hn⟩ | ⟨g, cap, cur, rfl, hb, hg, hnc, hcm, hcs, ht⟩⟩ := h
  · obtain rfl : zs = [] := List.eq_nil_of_length_eq_zero hn
    exact SlI.nil w
  · refine ⟨some ⟨g, 0, none⟩, cap, rfl, hnc, (fun h => by cases h), fun hbs => ⟨g, 0, rfl, ?_⟩⟩
    intro i hi
    rw [cell_of_row w g _ cur _ (0, 0) hg]
    have : (Iv zs)[i]? = some (.int .i64 zs[i]) := by simp [hi]
    rw [← ht, List.getElem?_take] at this
    split at this
    · simpa using this
    · cases this
theorem wp_app_none {o : Oper} {a : Act} {w : World} {K : Act → World → Prop} {Q : Exit → Act → World → Prop} (s x : Operand) (t : TypeId)
    (ho : o.op = .call { callee := .builtin .append, args := #[s, x], argTypes := #[t, t] })
    (base : Nat) (e : TypeId) (i : TypeInfo) (size : Nat) (ht : Tryd.prog.underlying t = some (.slice e)) (hi : Tryd.prog.info? e = some i)
    (v : Value) (n : Nat) (xs : List Value) (hs : a.eval s = v) (hown : w.ownsRow base e size v n xs) (hx : a.eval x = .slice none 0 0)
    (h : K (a.put o.dst v) w) : o.wp Tryd.prog a w K Q := by
  have hrun := run_append_owned_none (P := Tryd.prog) (w := w) base t o.type e i size ht hi v n xs hown
  unfold Oper.wp
  simp [execOp, ho, resolve, invoke, builtin, hs, hx, hrun, Result.andThen]
  exact h
theorem wp_bytes_any {o : Oper} {a : Act} {K : Act → World → Prop} {Q : Exit → Act → World → Prop} (w : World) (s x : Operand)
    (ho : o.op = .call { callee := .builtin .append, args := #[s, x], argTypes := #[28, 28] }) (base base' : Nat) (v xv : Value) (bs cs : List UInt8) (hs : a.eval s = v)
    (hx : a.eval x = xv) (how : Own w 5 base v bs) (hsx : Sl base' w xv cs) (hbase : base ≤ w.heap.size) (hl : bs.length + cs.length ≤ 200000000000000)
    (hK : ∀ v' w', Own w' 5 base v' (bs ++ cs) → w.grownBy w' v.ownBlock → K (a.put o.dst v') w') : o.wp Tryd.prog a w K Q := by
  obtain ⟨ao, cap, rfl, hc, hn, hxx⟩ := hsx
  obtain ⟨i0, hi, hz0, hz1, hz2⟩ := info_parts Tryd.infoU8
  cases ao with
  | none =>
    obtain rfl := hn rfl
    have h0 : cs = [] := List.eq_nil_of_length_eq_zero (by omega)
    subst h0
    exact wp_app_none s x 28 ho base 5 i0 1 Tryd.underlying28 hi v bs.length (Bv bs) hs how hx (hK v w (by rw [List.append_nil]; exact how) (World.grownBy.refl w _))
  | some ad =>
    refine wp_append_own_wide w s x 28 ho base 5 i0 (.int .u8 0) 1 1 Tryd.underlying28 hi hz0 hz1 hz2 rfl (by decide) v bs.length (Bv bs) hs how ad cs.length cap (Bv cs) hx (by simp) ?_ (Bv_one cs) ?_ ?_ hbase ?_
    · intro j u hj
      obtain ⟨b, o, e, _, ha⟩ := hxx (by rintro rfl; simp at hj)
      obtain rfl := Option.some.inj e
      exact ha.add j u hj
    · unfold maxLen; omega
    · omega
    · intro v' w' h1 h2 _
      exact hK v' w' (by simpa [Own] using h1) h2
theorem wp_ints_any {o : Oper} {a : Act} {K : Act → World → Prop} {Q : Exit → Act → World → Prop} (w : World) (s x : Operand)
    (ho : o.op = .call { callee := .builtin .append, args := #[s, x], argTypes := #[29, 29] }) (base : Nat) (v xv : Value) (zs ys : List Int) (hs : a.eval s = v)
    (hx : a.eval x = xv) (how : OwnI w base v zs) (hsx : SlI w xv ys) (hbase : base ≤ w.heap.size) (hl : zs.length + ys.length ≤ 10000000000000)
    (hK : ∀ v' w', OwnI w' base v' (zs ++ ys) → w.grownBy w' v.ownBlock → K (a.put o.dst v') w') : o.wp Tryd.prog a w K Q := by
  obtain ⟨ao, cap, rfl, hc, hn, hxx⟩ := hsx
  obtain ⟨i0, hi, hz0, hz1, hz2⟩ := info_parts Tryd.infoInt
  cases ao with
  | none =>
    obtain rfl := hn rfl
    have h0 : ys = [] := List.eq_nil_of_length_eq_zero (by omega)
    subst h0
    exact wp_app_none s x 29 ho base 3 i0 1 Tryd.underlying29 hi v zs.length (Iv zs) hs how hx (hK v w (by rw [List.append_nil]; exact how) (World.grownBy.refl w _))
  | some ad =>
    refine wp_append_own_wide w s x 29 ho base 3 i0 (.int .i64 0) 1 8 Tryd.underlying29 hi hz0 hz1 hz2 rfl (by decide) v zs.length (Iv zs) hs how ad ys.length cap (Iv ys) hx (by simp) ?_ ?_ ?_ ?_ hbase ?_
    · intro j u hj
      obtain ⟨b, o, e, ha⟩ := hxx (by rintro rfl; simp at hj)
      obtain rfl := Option.some.inj e
      obtain ⟨hj2, rfl⟩ := List.getElem?_eq_some_iff.1 hj
      rw [Addr.add_lit, ha j (by simpa using hj2)]
      simp
    · intro u hu
      obtain ⟨z, _, rfl⟩ := List.mem_map.1 hu
      rfl
    · unfold maxLen; omega
    · omega
    · intro v' w' h1 h2 _
      exact hK v' w' (by simpa [OwnI] using h1) h2

set_option maxRecDepth 20000 in
set_option maxHeartbeats 6400000 in
theorem play4 (f : Nat) (b : List UInt8) (zs : List Int) (vL vB vZ : Value) (w : World) (ad : Nat → Addr) (hk : KnA w ad) (hf : f < 18446744073709551616) (hL : ∃ a n c, vL = .slice a n c) (hB : Sl 0 w vB b) (hZ : SlI w vZ zs) (hb : b.length ≤ 100000000) (hz : zs.length ≤ 100000000)
    (hzz : ∀ z ∈ zs, -9223372036854775808 ≤ z ∧ z ≤ 9223372036854775807) :
    Calls Tryd.prog 12 #[.agg #[.int .i64 4, .int .u64 (f : Int), vL, vB, vZ]] w fun e w' => e = .returned (.bool true) ∧ Up w w' := by
  obtain ⟨aL, nL, cL, rfl⟩ := hL
  obtain ⟨aZ, cZ, hvZ⟩ : ∃ a c, vZ = .slice a zs.length c := by
    obtain ⟨a, c, e, _⟩ := hZ
    exact ⟨a, c, e⟩
  subst hvZ
  obtain ⟨aB, cB, rfl⟩ := hB.slice
  obtain ⟨w0, hw0⟩ : ∃ w0, w.alloc (.cells #[.int .i64 4, .int .u64 (f : Int), .slice aL nL cL, .slice aB b.length cB, .slice aZ zs.length cZ] 31) = w0 := ⟨_, rfl⟩
  have hu0 : Up w w0 := by rw [← hw0]; exact Up.alloc _ _
  have hc0 : w0.cell? ⟨w.heap.size, 1, none⟩ = some (.int .u64 (f : Int)) ∧ w0.cell? ⟨w.heap.size, 2, none⟩ = some (.slice aL nL cL) ∧ w0.cell? ⟨w.heap.size, 3, none⟩ = some (.slice aB b.length cB) ∧ w0.cell? ⟨w.heap.size, 4, none⟩ = some (.slice aZ zs.length cZ) := by
    rw [← hw0]
    refine ⟨?_, ?_, ?_, ?_⟩ <;> (rw [cell_of_row _ _ _ _ _ _ (heap_alloc_new _ _)]; rfl)
  have hc00 : w0.cell? ⟨w.heap.size, 0, none⟩ = some (.int .i64 4) := by
    rw [← hw0, cell_of_row _ _ _ _ _ _ (heap_alloc_new _ _)]; rfl
  have hlt0 : w.heap.size < w0.heap.size := World.block_lt_of_cell? w0 _ hc0.1
  have HCell : Hid (∀ u, Up w0 u → u.cell? ⟨w.heap.size, 1, none⟩ = some (.int .u64 (f : Int)) ∧ u.cell? ⟨w.heap.size, 2, none⟩ = some (.slice aL nL cL) ∧ u.cell? ⟨w.heap.size, 3, none⟩ = some (.slice aB b.length cB) ∧ u.cell? ⟨w.heap.size, 4, none⟩ = some (.slice aZ zs.length cZ)) := fun u hu => by
    rw [hu.cell (p := ⟨w.heap.size, 1, none⟩) hlt0, hu.cell (p := ⟨w.heap.size, 2, none⟩) hlt0, hu.cell (p := ⟨w.heap.size, 3, none⟩) hlt0, hu.cell (p := ⟨w.heap.size, 4, none⟩) hlt0]
    exact hc0
  have HK : Hid (KnA w0 ad ∧ Up w w0 ∧ Sl 0 w0 (.slice aB b.length cB) b ∧ SlI w0 (.slice aZ zs.length cZ) zs) := ⟨hk.up hu0, hu0, hB.up hu0, hZ.up hu0⟩
  clear hk hB hu0 hZ hc0 hlt0
  go_enter Tryd.func12, Tryd.ntmps12
  go_wp2_with fail
  clear hc00
  obtain ⟨RES, hRES⟩ : ∃ RES, scanB (badOf zs) (b.length / 512) b 0 f = RES := ⟨_, rfl⟩
  have HRES : Hid (scanB (badOf zs) (b.length / 512) b 0 f = RES) := hRES
  clear hRES
  have HScan : Hid (∀ u v5 vI, Up w0 u → Own u 5 w0.heap.size v5 b → OwnI u w0.heap.size vI zs → Calls Tryd.prog 20 #[v5, vI, .int .u64 (f : Int)] u fun e w' => ∃ a c vs, e = .returned (.tuple #[.slice a RES.1.length c, .int .i64 (RES.2 : Nat)]) ∧ Recs w' 0 (.slice a RES.1.length c) RES.1 vs ∧ Up u w') := fun u v5 vI hu h5 hI => by
    have := Scan_any w0.heap.size v5 vI b zs f u ad (HK.out.1.up hu).1.tb (HK.out.1.up hu).1.gl h5.sl hI.sli (by omega) (by omega) hzz hf
    rw [HRES.out] at this
    refine this.mono ?_
    rintro e w' ⟨v', vs, rfl, hr, hu'⟩
    obtain ⟨a, c, rfl⟩ := hr.slice
    exact ⟨a, c, vs, rfl, hr.low (Nat.zero_le _), hu'⟩
  clear hw0
  go_cut [17, 18] (fun s17 s18 wx => ∃ a c, s17 = .slice a RES.1.length c ∧ s18 = .int .i64 (RES.2 : Nat) ∧ ∃ vs, Hid (Recs wx 0 (.slice a RES.1.length c) RES.1 vs ∧ Up w0 wx))
  case first =>
    have hs := Up.drew w0
    refine wp_region_held_drew (S := fun u => Up w0 u) (by kernel_rfl) hs (fun hs0 => ?_)
    clear hs0
    generalize w0.drew = wd at hs ⊢
    refine take_to (some 112) (i := 1) (v := .pointer (some ⟨w.heap.size, 3, none⟩)) rfl rfl (by kernel_rfl) (by kernel_rfl) (by kernel_rfl) (fun _ _ _ h => h) (Or.inl ⟨by kernel_rfl, by intro u hSu; go_simp⟩) hs ?_
    simp only [Act.put, List.setIfInBounds_toArray, List.set_cons_zero, List.set_cons_succ]
    refine take_to (some 113) (i := 2) (v := .slice aB b.length cB) rfl rfl (by kernel_rfl) (by kernel_rfl) (by kernel_rfl) (fun _ _ _ h => h) (Or.inl ⟨by kernel_rfl, by intro u hSu; have q := HCell.out u hSu; obtain ⟨q1, q2, q3, q4⟩ := q; go_simp⟩) hs ?_
    simp only [Act.put, List.setIfInBounds_toArray, List.set_cons_zero, List.set_cons_succ]
    refine take_to (some 116) (i := 5) (v := .pointer (some ⟨w.heap.size, 4, none⟩)) rfl rfl (by kernel_rfl) (by kernel_rfl) (by kernel_rfl) (fun _ _ _ h => h) (Or.inl ⟨by kernel_rfl, by intro u hSu; go_simp⟩) hs ?_
    simp only [Act.put, List.setIfInBounds_toArray, List.set_cons_zero, List.set_cons_succ]
    refine take_to (some 117) (i := 6) (v := .slice aZ zs.length cZ) rfl rfl (by kernel_rfl) (by kernel_rfl) (by kernel_rfl) (fun _ _ _ h => h) (Or.inl ⟨by kernel_rfl, by intro u hSu; have q := HCell.out u hSu; obtain ⟨q1, q2, q3, q4⟩ := q; go_simp⟩) hs ?_
    simp only [Act.put, List.setIfInBounds_toArray, List.set_cons_zero, List.set_cons_succ]
    refine take_to (some 119) (i := 8) (v := .pointer (some ⟨w.heap.size, 1, none⟩)) rfl rfl (by kernel_rfl) (by kernel_rfl) (by kernel_rfl) (fun _ _ _ h => h) (Or.inl ⟨by kernel_rfl, by intro u hSu; go_simp⟩) hs ?_
    simp only [Act.put, List.setIfInBounds_toArray, List.set_cons_zero, List.set_cons_succ]
    refine take_to (some 120) (i := 9) (v := .int .u64 (f : Int)) rfl rfl (by kernel_rfl) (by kernel_rfl) (by kernel_rfl) (fun _ _ _ h => h) (Or.inl ⟨by kernel_rfl, by intro u hSu; have q := HCell.out u hSu; obtain ⟨q1, q2, q3, q4⟩ := q; go_simp⟩) hs ?_
    simp only [Act.put, List.setIfInBounds_toArray, List.set_cons_zero, List.set_cons_succ]
    refine wpAnyH_ready (rs := [0, 4]) (by kernel_rfl) (by simp) ?_
    refine AllReadyH.cons rfl (fun K hK => ?_) (AllReadyH.cons rfl (fun K hK => ?_) AllReadyH.nil)
    · go_simp
      have OB : Own (wd.alloc (.cells #[] 5)) 5 w0.heap.size (.slice (some ⟨(wd).heap.size, 0, none⟩) 0 0) [] := ownsRow_low (base' := w0.heap.size) (own_built wd [] (by simp)) hs.size
      replace hs : Up w0 _ := hs.trans (Up.alloc wd (.cells #[] 5))
      refine hK.out _ _ hs (fun _ => ?_)
      clear hK K
      generalize (wd.alloc (.cells #[] 5)) = wa0 at OB hs ⊢
      refine wpAnyH_ready (rs := [3, 4]) (by kernel_rfl) (by simp) ?_
      refine AllReadyH.cons rfl (fun K hK => ?_) (AllReadyH.cons rfl (fun K hK => ?_) AllReadyH.nil)
      · rw [if_pos (by rfl)]
        refine wp_bytes_any _ (.tmp 111) (.tmp 113) rfl w0.heap.size 0 _ _ [] b rfl rfl OB (HK.out.2.2.1.up hs) hs.size (by simp; omega) ?_
        intro v5 w5 o5 g5
        replace hs : Up w0 w5 := grown_up hs g5 (fun x hx => (World.ownsRow.lt OB x hx).1)
        replace OB := o5
        clear g5 o5
        refine hK.out _ _ hs (fun _ => ?_)
        clear hK K
        simp only [Act.put, List.setIfInBounds_toArray, List.set_cons_zero, List.set_cons_succ, List.getElem_toArray, List.getElem_cons_succ, List.getElem_cons_zero]
        refine wpAnyH_ready (rs := [4]) (by kernel_rfl) (by simp) ?_
        refine AllReadyH.cons rfl (fun K hK => ?_) AllReadyH.nil
        go_simp
        have OI : OwnI (w5.alloc (.cells #[] 3)) w0.heap.size (.slice (some ⟨(w5).heap.size, 0, none⟩) 0 0) [] := ownsRow_low (base' := w0.heap.size) (own_builtI w5) hs.size
        replace OB := ownsRow_up OB (Up.alloc w5 (.cells #[] 3))
        replace hs : Up w0 _ := hs.trans (Up.alloc w5 (.cells #[] 3))
        refine hK.out _ _ hs (fun _ => ?_)
        clear hK K
        generalize (w5.alloc (.cells #[] 3)) = wa4 at OB OI hs ⊢
        refine wpAnyH_ready (rs := [7]) (by kernel_rfl) (by simp) ?_
        refine AllReadyH.cons rfl (fun K hK => ?_) AllReadyH.nil
        rw [if_pos (by rfl)]
        refine wp_ints_any _ (.tmp 115) (.tmp 117) rfl w0.heap.size _ _ [] zs rfl rfl OI (HK.out.2.2.2.up hs) hs.size (by simp; omega) ?_
        intro vI wI oI gI
        replace OB := ownsRow_grown OB gI (fun x hx e => types_apart (by decide) OB OI hx e)
        replace hs : Up w0 wI := grown_up hs gI (fun x hx => (World.ownsRow.lt OI x hx).1)
        replace OI := oI
        clear gI oI
        refine hK.out _ _ hs (fun _ => ?_)
        clear hK K
        simp only [Act.put, List.setIfInBounds_toArray, List.set_cons_zero, List.set_cons_succ, List.getElem_toArray, List.getElem_cons_succ, List.getElem_cons_zero]
        refine wpAnyH_ready (rs := [10]) (by kernel_rfl) (by simp) ?_
        refine AllReadyH.cons rfl (fun K hK => ?_) AllReadyH.nil
        go_simp
        refine (HScan.out _ _ _ hs OB OI).mono ?_
        rintro e wS ⟨a, c, vs, rfl, hr, uS⟩
        replace hs : Up w0 wS := hs.trans uS
        refine hK.out _ _ hs (fun _ => ?_)
        clear hK K
        refine take_to (some 110) (i := 11) (v := .tuple #[.slice a RES.1.length c, .int .i64 (RES.2 : Nat)]) rfl rfl (by kernel_rfl) (by kernel_rfl) (by kernel_rfl) (fun _ _ _ h => h) (Or.inl ⟨by kernel_rfl, by intro u hSu; go_simp⟩) hs ?_
        simp only [Act.put, List.setIfInBounds_toArray, List.set_cons_zero, List.set_cons_succ]
        refine take_to (some 122) (i := 12) (v := .slice a RES.1.length c) rfl rfl (by kernel_rfl) (by kernel_rfl) (by kernel_rfl) (fun _ _ _ h => h) (Or.inl ⟨by kernel_rfl, by intro u hSu; go_simp⟩) hs ?_
        simp only [Act.put, List.setIfInBounds_toArray, List.set_cons_zero, List.set_cons_succ]
        refine take_to (some 123) (i := 13) (v := .int .i64 (RES.2 : Nat)) rfl rfl (by kernel_rfl) (by kernel_rfl) (by kernel_rfl) (fun _ _ _ h => h) (Or.inl ⟨by kernel_rfl, by intro u hSu; go_simp⟩) hs ?_
        simp only [Act.put, List.setIfInBounds_toArray, List.set_cons_zero, List.set_cons_succ]
        refine take_to (some 17) (i := 14) (v := .slice a RES.1.length c) rfl rfl (by kernel_rfl) (by kernel_rfl) (by kernel_rfl) (fun _ _ _ h => h) (Or.inl ⟨by kernel_rfl, by intro u hSu; go_simp⟩) hs ?_
        simp only [Act.put, List.setIfInBounds_toArray, List.set_cons_zero, List.set_cons_succ]
        refine take_to (some 18) (i := 15) (v := .int .i64 (RES.2 : Nat)) rfl rfl (by kernel_rfl) (by kernel_rfl) (by kernel_rfl) (fun _ _ _ h => h) (Or.inl ⟨by kernel_rfl, by intro u hSu; go_simp⟩) hs ?_
        simp only [Act.put, List.setIfInBounds_toArray, List.set_cons_zero, List.set_cons_succ]
        refine wpAnyH_done (by kernel_rfl) ?_ _
        go_wp2_with fail
        go_meet
        case rel => exact ⟨a, c, rfl, rfl, vs, hr, hs⟩
      · go_simp
        have OI : OwnI (wa0.alloc (.cells #[] 3)) w0.heap.size (.slice (some ⟨(wa0).heap.size, 0, none⟩) 0 0) [] := ownsRow_low (base' := w0.heap.size) (own_builtI wa0) hs.size
        replace OB := ownsRow_up OB (Up.alloc wa0 (.cells #[] 3))
        replace hs : Up w0 _ := hs.trans (Up.alloc wa0 (.cells #[] 3))
        refine hK.out _ _ hs (fun _ => ?_)
        clear hK K
        generalize (wa0.alloc (.cells #[] 3)) = wa4 at OB OI hs ⊢
        refine wpAnyH_ready (rs := [3]) (by kernel_rfl) (by simp) ?_
        refine AllReadyH.cons rfl (fun K hK => ?_) AllReadyH.nil
        rw [if_pos (by rfl)]
        refine wp_bytes_any _ (.tmp 111) (.tmp 113) rfl w0.heap.size 0 _ _ [] b rfl rfl OB (HK.out.2.2.1.up hs) hs.size (by simp; omega) ?_
        intro v5 w5 o5 g5
        replace OI := ownsRow_grown OI g5 (fun x hx e => types_apart (by decide) OI OB hx e)
        replace hs : Up w0 w5 := grown_up hs g5 (fun x hx => (World.ownsRow.lt OB x hx).1)
        replace OB := o5
        clear g5 o5
        refine hK.out _ _ hs (fun _ => ?_)
        clear hK K
        simp only [Act.put, List.setIfInBounds_toArray, List.set_cons_zero, List.set_cons_succ, List.getElem_toArray, List.getElem_cons_succ, List.getElem_cons_zero]
        refine wpAnyH_ready (rs := [7]) (by kernel_rfl) (by simp) ?_
        refine AllReadyH.cons rfl (fun K hK => ?_) AllReadyH.nil
        rw [if_pos (by rfl)]
        refine wp_ints_any _ (.tmp 115) (.tmp 117) rfl w0.heap.size _ _ [] zs rfl rfl OI (HK.out.2.2.2.up hs) hs.size (by simp; omega) ?_
        intro vI wI oI gI
        replace OB := ownsRow_grown OB gI (fun x hx e => types_apart (by decide) OB OI hx e)
        replace hs : Up w0 wI := grown_up hs gI (fun x hx => (World.ownsRow.lt OI x hx).1)
        replace OI := oI
        clear gI oI
        refine hK.out _ _ hs (fun _ => ?_)
        clear hK K
        simp only [Act.put, List.setIfInBounds_toArray, List.set_cons_zero, List.set_cons_succ, List.getElem_toArray, List.getElem_cons_succ, List.getElem_cons_zero]
        refine wpAnyH_ready (rs := [10]) (by kernel_rfl) (by simp) ?_
        refine AllReadyH.cons rfl (fun K hK => ?_) AllReadyH.nil
        go_simp
        refine (HScan.out _ _ _ hs OB OI).mono ?_
        rintro e wS ⟨a, c, vs, rfl, hr, uS⟩
        replace hs : Up w0 wS := hs.trans uS
        refine hK.out _ _ hs (fun _ => ?_)
        clear hK K
        refine take_to (some 110) (i := 11) (v := .tuple #[.slice a RES.1.length c, .int .i64 (RES.2 : Nat)]) rfl rfl (by kernel_rfl) (by kernel_rfl) (by kernel_rfl) (fun _ _ _ h => h) (Or.inl ⟨by kernel_rfl, by intro u hSu; go_simp⟩) hs ?_
        simp only [Act.put, List.setIfInBounds_toArray, List.set_cons_zero, List.set_cons_succ]
        refine take_to (some 122) (i := 12) (v := .slice a RES.1.length c) rfl rfl (by kernel_rfl) (by kernel_rfl) (by kernel_rfl) (fun _ _ _ h => h) (Or.inl ⟨by kernel_rfl, by intro u hSu; go_simp⟩) hs ?_
        simp only [Act.put, List.setIfInBounds_toArray, List.set_cons_zero, List.set_cons_succ]
        refine take_to (some 123) (i := 13) (v := .int .i64 (RES.2 : Nat)) rfl rfl (by kernel_rfl) (by kernel_rfl) (by kernel_rfl) (fun _ _ _ h => h) (Or.inl ⟨by kernel_rfl, by intro u hSu; go_simp⟩) hs ?_
        simp only [Act.put, List.setIfInBounds_toArray, List.set_cons_zero, List.set_cons_succ]
        refine take_to (some 17) (i := 14) (v := .slice a RES.1.length c) rfl rfl (by kernel_rfl) (by kernel_rfl) (by kernel_rfl) (fun _ _ _ h => h) (Or.inl ⟨by kernel_rfl, by intro u hSu; go_simp⟩) hs ?_
        simp only [Act.put, List.setIfInBounds_toArray, List.set_cons_zero, List.set_cons_succ]
        refine take_to (some 18) (i := 15) (v := .int .i64 (RES.2 : Nat)) rfl rfl (by kernel_rfl) (by kernel_rfl) (by kernel_rfl) (fun _ _ _ h => h) (Or.inl ⟨by kernel_rfl, by intro u hSu; go_simp⟩) hs ?_
        simp only [Act.put, List.setIfInBounds_toArray, List.set_cons_zero, List.set_cons_succ]
        refine wpAnyH_done (by kernel_rfl) ?_ _
        go_wp2_with fail
        go_meet
        case rel => exact ⟨a, c, rfl, rfl, vs, hr, hs⟩
    · go_simp
      have OI : OwnI (wd.alloc (.cells #[] 3)) w0.heap.size (.slice (some ⟨(wd).heap.size, 0, none⟩) 0 0) [] := ownsRow_low (base' := w0.heap.size) (own_builtI wd) hs.size
      replace hs : Up w0 _ := hs.trans (Up.alloc wd (.cells #[] 3))
      refine hK.out _ _ hs (fun _ => ?_)
      clear hK K
      generalize (wd.alloc (.cells #[] 3)) = wa4 at OI hs ⊢
      refine wpAnyH_ready (rs := [0]) (by kernel_rfl) (by simp) ?_
      refine AllReadyH.cons rfl (fun K hK => ?_) AllReadyH.nil
      go_simp
      have OB : Own (wa4.alloc (.cells #[] 5)) 5 w0.heap.size (.slice (some ⟨(wa4).heap.size, 0, none⟩) 0 0) [] := ownsRow_low (base' := w0.heap.size) (own_built wa4 [] (by simp)) hs.size
      replace OI := ownsRow_up OI (Up.alloc wa4 (.cells #[] 5))
      replace hs : Up w0 _ := hs.trans (Up.alloc wa4 (.cells #[] 5))
      refine hK.out _ _ hs (fun _ => ?_)
      clear hK K
      generalize (wa4.alloc (.cells #[] 5)) = wa0 at OB OI hs ⊢
      refine wpAnyH_ready (rs := [3]) (by kernel_rfl) (by simp) ?_
      refine AllReadyH.cons rfl (fun K hK => ?_) AllReadyH.nil
      rw [if_pos (by rfl)]
      refine wp_bytes_any _ (.tmp 111) (.tmp 113) rfl w0.heap.size 0 _ _ [] b rfl rfl OB (HK.out.2.2.1.up hs) hs.size (by simp; omega) ?_
      intro v5 w5 o5 g5
      replace OI := ownsRow_grown OI g5 (fun x hx e => types_apart (by decide) OI OB hx e)
      replace hs : Up w0 w5 := grown_up hs g5 (fun x hx => (World.ownsRow.lt OB x hx).1)
      replace OB := o5
      clear g5 o5
      refine hK.out _ _ hs (fun _ => ?_)
      clear hK K
      simp only [Act.put, List.setIfInBounds_toArray, List.set_cons_zero, List.set_cons_succ, List.getElem_toArray, List.getElem_cons_succ, List.getElem_cons_zero]
      refine wpAnyH_ready (rs := [7]) (by kernel_rfl) (by simp) ?_
      refine AllReadyH.cons rfl (fun K hK => ?_) AllReadyH.nil
      rw [if_pos (by rfl)]
      refine wp_ints_any _ (.tmp 115) (.tmp 117) rfl w0.heap.size _ _ [] zs rfl rfl OI (HK.out.2.2.2.up hs) hs.size (by simp; omega) ?_
      intro vI wI oI gI
      replace OB := ownsRow_grown OB gI (fun x hx e => types_apart (by decide) OB OI hx e)
      replace hs : Up w0 wI := grown_up hs gI (fun x hx => (World.ownsRow.lt OI x hx).1)
      replace OI := oI
      clear gI oI
      refine hK.out _ _ hs (fun _ => ?_)
      clear hK K
      simp only [Act.put, List.setIfInBounds_toArray, List.set_cons_zero, List.set_cons_succ, List.getElem_toArray, List.getElem_cons_succ, List.getElem_cons_zero]
      refine wpAnyH_ready (rs := [10]) (by kernel_rfl) (by simp) ?_
      refine AllReadyH.cons rfl (fun K hK => ?_) AllReadyH.nil
      go_simp
      refine (HScan.out _ _ _ hs OB OI).mono ?_
      rintro e wS ⟨a, c, vs, rfl, hr, uS⟩
      replace hs : Up w0 wS := hs.trans uS
      refine hK.out _ _ hs (fun _ => ?_)
      clear hK K
      refine take_to (some 110) (i := 11) (v := .tuple #[.slice a RES.1.length c, .int .i64 (RES.2 : Nat)]) rfl rfl (by kernel_rfl) (by kernel_rfl) (by kernel_rfl) (fun _ _ _ h => h) (Or.inl ⟨by kernel_rfl, by intro u hSu; go_simp⟩) hs ?_
      simp only [Act.put, List.setIfInBounds_toArray, List.set_cons_zero, List.set_cons_succ]
      refine take_to (some 122) (i := 12) (v := .slice a RES.1.length c) rfl rfl (by kernel_rfl) (by kernel_rfl) (by kernel_rfl) (fun _ _ _ h => h) (Or.inl ⟨by kernel_rfl, by intro u hSu; go_simp⟩) hs ?_
      simp only [Act.put, List.setIfInBounds_toArray, List.set_cons_zero, List.set_cons_succ]
      refine take_to (some 123) (i := 13) (v := .int .i64 (RES.2 : Nat)) rfl rfl (by kernel_rfl) (by kernel_rfl) (by kernel_rfl) (fun _ _ _ h => h) (Or.inl ⟨by kernel_rfl, by intro u hSu; go_simp⟩) hs ?_
      simp only [Act.put, List.setIfInBounds_toArray, List.set_cons_zero, List.set_cons_succ]
      refine take_to (some 17) (i := 14) (v := .slice a RES.1.length c) rfl rfl (by kernel_rfl) (by kernel_rfl) (by kernel_rfl) (fun _ _ _ h => h) (Or.inl ⟨by kernel_rfl, by intro u hSu; go_simp⟩) hs ?_
      simp only [Act.put, List.setIfInBounds_toArray, List.set_cons_zero, List.set_cons_succ]
      refine take_to (some 18) (i := 15) (v := .int .i64 (RES.2 : Nat)) rfl rfl (by kernel_rfl) (by kernel_rfl) (by kernel_rfl) (fun _ _ _ h => h) (Or.inl ⟨by kernel_rfl, by intro u hSu; go_simp⟩) hs ?_
      simp only [Act.put, List.setIfInBounds_toArray, List.set_cons_zero, List.set_cons_succ]
      refine wpAnyH_done (by kernel_rfl) ?_ _
      go_wp2_with fail
      go_meet
      case rel => exact ⟨a, c, rfl, rfl, vs, hr, hs⟩
  case rest =>
    obtain ⟨a, c, rfl, rfl, vs, HF⟩ := hcut
    obtain ⟨q1, q2, q3, q4⟩ := HCell.out wc HF.out.2
    have hrs := rScan_any (.slice aB b.length cB) (.slice aZ zs.length cZ) b zs f wc (HK.out.2.2.1.up HF.out.2) (HK.out.2.2.2.up HF.out.2) (by omega) (by omega) hf
    have hle := scanB_le (badOf zs) (b.length / 512) b 0 f
    rw [HRES.out] at hrs hle
    have HLE : Hid (RES.1.length ≤ 140737488355328 ∧ ∀ r ∈ RES.1, r.length ≤ 140737488355328) := ⟨by have := hle.1; omega, fun r hr => by have := hle.2 r hr; omega⟩
    clear hle HRES HScan HCell
    go_wp2_with fail
    refine hrs.mono ?_
    rintro e w7 ⟨v7, vs7, rfl, r7, u7⟩
    obtain ⟨a7, c7, rfl⟩ := r7.slice
    have U7 : Up w0 w7 := HF.out.2.trans u7
    have hal := alike_any _ _ RES.1 RES.1 w7 (HF.out.1.up u7).rw r7.rw HLE.out.1 HLE.out.1 HLE.out.2 HLE.out.2
    rw [decide_eq_true rfl] at hal
    clear hrs q1 q2 q3 q4 r7 u7 HF HLE
    go_wp2_with fail
    refine hal.mono ?_
    rintro e w9 ⟨rfl, n, e9⟩
    have U9 : Up w w9 := by rw [e9]; exact (HK.out.2.1.trans U7).trans (up_drewN _ _)
    clear hal e9
    go_wp2
    go_ret
    exact ⟨rfl, U9⟩
end Go.Proofs.YtoljalolfdnghaaDoor
