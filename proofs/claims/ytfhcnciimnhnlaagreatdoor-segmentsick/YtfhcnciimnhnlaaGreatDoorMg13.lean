/- Merged: HeldTo, DkNew. -/
import Derived.Deep.RegionHeld3
import Derived.Test.YtfhcnciimnhnlaaGreatDoorMg12
set_option linter.unusedVariables false
namespace Go.Proofs.YtfhcnciimnhnlaaGreatDoor
open Go

theorem take_to {P : Program} {md : Region.Mode} {ops : Array Oper} {Q : Exit → Act → World → Prop} {S : World → Prop} {i : Nat} {oi : Oper} {v : Value} {fuel : Nat} {listed : Array Bool} {a : Act} {w : World} (d : Option Tmp) (hi : ops[i]? = some oi) (hd : oi.dst = d)
    (hs : Region.noSelect ops = true) (hf : Region.free md ops listed i = true) (hr : (Region.ready md ops listed).contains i = true)
    (hQ : ∀ c a w, Q (.panic c) (a.put oi.dst v) w → Q (.panic c) a w) (hy : YieldsIf P ops S oi v a) (hS : S w)
    (h : wpAnyH P md ops Q S fuel (listed.setIfInBounds i true) (a.put d v) w) : wpAnyH P md ops Q S (fuel + 1) listed a w := by
  subst hd
  exact wpAnyH_take hi hs hf hr hQ hy hS h
end Go.Proofs.YtfhcnciimnhnlaaGreatDoor

set_option linter.unusedVariables false
set_option linter.unusedSimpArgs false
namespace Go.Proofs.YtfhcnciimnhnlaaGreatDoor
open Go Go.RowKit

/-- Sl and SlN of own rows, told from 0 on. -/
theorem OwnB.any0 {w : World} {base : Nat} {v : Value} {bs : List UInt8} (h : OwnB w base v bs) : Sl 0 w v bs := by
  obtain ⟨a, b, c, d, e, f⟩ := h.sl
  exact ⟨a, b, c, d, e, fun h => by obtain ⟨g, o, h1, _, h3⟩ := f h; exact ⟨g, o, h1, Nat.zero_le _, h3⟩⟩
theorem OwnN.any0 {w : World} {base : Nat} {v : Value} {zs : List Nat} (h : OwnN w base v zs) : SlN 0 w v zs := by
  obtain ⟨a, b, c, d, e, f⟩ := h.sl
  exact ⟨a, b, c, d, e, fun h => by obtain ⟨g, o, h1, _, h3⟩ := f h; exact ⟨g, o, h1, Nat.zero_le _, h3⟩⟩

theorem newFile_fin {w u w' : World} {db base n M : Nat} {ds : Array Value} {vd vb vf vfb : Value} {c : Con} {t : TypeId} (hD : Box w db ds) (hd : OwnB w base vd c.data) (hb : OwnN w base vb c.bad) (hnd : (ob vd ++ ob vb).Nodup) (hdb : db ∉ ob vd ++ ob vb) (hbase : base ≤ w.heap.size)
    (hM : M = sec c.data.length) (hu : Up ((w.alloc (.cells #[vd, vb] 124)).setCell ⟨db, 3, none⟩ (.int .i64 ((n : Int) + 1))) u) (hf : OwnB u (w.heap.size + 1) vf c.data) (hfb : OwnN u (w.heap.size + 1) vfb c.bad) (hfn : (ob vf ++ ob vfb).Nodup)
    (hw : w' = u.alloc (.cells (fcells ((n : Int) + 1) vd vb vf vfb M) t)) :
    w.heap.size ≤ u.heap.size ∧ FileV w' base u.heap.size ((n : Int) + 1) vd vb vf vfb (Fil.made c) ∧ (∀ k ∈ ob vf ++ ob vfb, w.heap.size ≤ k) ∧ Box w' db (ds.setIfInBounds 3 (.int .i64 ((n : Int) + 1))) ∧ Touch w w' [db] := by
  subst hw hM
  have t0 : Touch w ((w.alloc (.cells #[vd, vb] 124)).setCell ⟨db, 3, none⟩ (.int .i64 ((n : Int) + 1))) [db] := ((Touch.refl _ _).alloc _).setCell (.inl (by simp)) _ _
  have tu : Touch w u [db] := t0.trans (Touch.of_up hu []) (fun k hk => by simp at hk)
  have tw : Touch w (u.alloc (.cells (fcells ((n : Int) + 1) vd vb vf vfb (sec c.data.length)) t)) [db] := tu.alloc _
  have ua : Up u (u.alloc (.cells (fcells ((n : Int) + 1) vd vb vf vfb (sec c.data.length)) t)) := Up.alloc _ _
  have hnew : ∀ k ∈ ob vf ++ ob vfb, w.heap.size + 1 ≤ k ∧ k < u.heap.size := fun k hk => by
    rcases List.mem_append.1 hk with h | h
    · exact hf.ge k h
    · exact hfb.ge k h
  have hold : ∀ k ∈ ob vd ++ ob vb, k < w.heap.size := fun k hk => by
    rcases List.mem_append.1 hk with h | h
    · exact (hd.ge k h).2
    · exact (hb.ge k h).2
  have hsz := tu.size
  refine ⟨hsz, ⟨Box.new _ _ _, ?_, ?_, ?_, ?_, ?_⟩, fun k hk => by have := (hnew k hk).1; omega, ?_, tw⟩
  · exact Touch.row hd tw (fun k hk => by simp; rintro rfl; exact hdb (List.mem_append_left _ (mem_ob.2 hk)))
  · exact Touch.row hb tw (fun k hk => by simp; rintro rfl; exact hdb (List.mem_append_right _ (mem_ob.2 hk)))
  · exact (hf.up ua).rebase (by omega)
  · exact (hfb.up ua).rebase (by omega)
  · rw [← List.append_assoc, List.nodup_cons, List.nodup_append]
    refine ⟨fun hm => ?_, hnd, hfn, fun x hx y hy e => ?_⟩
    · rcases List.mem_append.1 hm with h | h
      · have := hold _ h; omega
      · have := (hnew _ h).2; omega
    · subst e
      have := hold _ hx
      have := (hnew _ hy).1
      omega
  · exact (((hD.alloc _).set 3 _).up hu).up ua

set_option maxRecDepth 20000 in
set_option maxHeartbeats 800000 in
theorem newFile_any (db base n : Nat) (ds : Array Value) (vd vb : Value) (c : Con) (w : World) (hD : Box w db ds) (h3 : ds[3]? = some (.int .i64 (n : Int))) (hn : n ≤ 4611686018427387904)
    (hd : OwnB w base vd c.data) (hb : OwnN w base vb c.bad) (hnd : (ob vd ++ ob vb).Nodup) (hdb : db ∉ ob vd ++ ob vb) (hbase : base ≤ w.heap.size) (hl : c.data.length ≤ CB) (hl2 : c.bad.length ≤ 10000000000000) :
    Calls Tryz.prog 91 #[.pointer (some ⟨db, 0, none⟩), .agg #[vd, vb]] w fun e w' => ∃ fb vf vfb, e = .returned (.pointer (some ⟨fb, 0, none⟩)) ∧ w.heap.size ≤ fb ∧ FileV w' base fb ((n : Int) + 1) vd vb vf vfb (Fil.made c) ∧
      (∀ k ∈ ob vf ++ ob vfb, w.heap.size ≤ k) ∧ Box w' db (ds.setIfInBounds 3 (.int .i64 ((n : Int) + 1))) ∧ Touch w w' [db] := by
  obtain ⟨pd, qd, rfl⟩ := hd.slice
  obtain ⟨pb, qb, rfl⟩ := hb.slice
  have hdl : db < w.heap.size := hD.lt
  have c3 : w.cell? ⟨db, 3, none⟩ = some (.int .i64 (n : Int)) := by rw [hD.cell]; exact h3
  have f3 : w.frozen? ⟨db, 3, none⟩ = false := hD.frozen 3
  have e1 : IntKind.i64.wrap ((n : Int) + 1) = (n : Int) + 1 := by rw [IntKind.wrap_i64]; omega
  have HA : Hid (Box w db ds ∧ OwnB w base (.slice pd c.data.length qd) c.data ∧ OwnN w base (.slice pb c.bad.length qb) c.bad ∧ (ob (.slice pd c.data.length qd) ++ ob (.slice pb c.bad.length qb)).Nodup ∧ db ∉ ob (.slice pd c.data.length qd) ++ ob (.slice pb c.bad.length qb) ∧ base ≤ w.heap.size ∧ ds[3]? = some (.int .i64 (n : Int))) := ⟨hD, hd, hb, hnd, hdb, hbase, h3⟩
  obtain ⟨W1, hW1⟩ : ∃ W1, (w.alloc (.cells #[.slice pd c.data.length qd, .slice pb c.bad.length qb] 124)).setCell ⟨db, 3, none⟩ (.int .i64 ((n : Int) + 1)) = W1 := ⟨_, rfl⟩
  have t1 : Touch w W1 [db] := by rw [← hW1]; exact ((Touch.refl _ _).alloc _).setCell (.inl (by simp)) _ _
  have b1 : Box W1 w.heap.size #[.slice pd c.data.length qd, .slice pb c.bad.length qb] := by rw [← hW1]; exact (Box.new _ _ _).other (by omega) _ _
  have b2 : Box W1 db (ds.setIfInBounds 3 (.int .i64 ((n : Int) + 1))) := by rw [← hW1]; exact (hD.alloc _).set 3 _
  have hz1 : W1.heap.size = w.heap.size + 1 := by rw [← hW1]; simp
  have d3 : (ds.setIfInBounds 3 (.int .i64 ((n : Int) + 1)))[3]? = some (.int .i64 ((n : Int) + 1)) := by
    rw [Array.getElem?_setIfInBounds_self_of_lt (Array.getElem?_eq_some_iff.1 h3).1]
  have hd1 : OwnB W1 base (.slice pd c.data.length qd) c.data := Touch.row hd t1 (fun k hk => by simp; rintro rfl; exact hdb (List.mem_append_left _ (mem_ob.2 hk)))
  have hb1 : OwnN W1 base (.slice pb c.bad.length qb) c.bad := Touch.row hb t1 (fun k hk => by simp; rintro rfl; exact hdb (List.mem_append_right _ (mem_ob.2 hk)))
  have hsec := fun u => sectors_any c.data.length (by unfold CB at hl; omega) u
  obtain ⟨M, hM⟩ : ∃ M, sec c.data.length = M := ⟨_, rfl⟩
  rw [hM] at hsec
  have HS : Hid (∀ u, Calls Tryz.prog 138 #[.int .i64 (c.data.length : Int)] u fun e w' => e = .returned (.int .i64 (M : Int)) ∧ w' = u) := hsec
  have HC : Hid (∀ u, Up W1 u → Calls Tryz.prog 65 #[.agg #[.slice pd c.data.length qd, .slice pb c.bad.length qb]] u fun e w' => ∃ vd' vb', e = .returned (.agg #[vd', vb']) ∧ Copied u w' u.heap.size vd' vb' c) :=
    fun u hu => clone_any _ _ c u (hd1.up hu).any0 (hb1.up hu).any0 hl hl2
  have HM : Hid (sec c.data.length = M) := hM
  have hs : Box W1 w.heap.size #[.slice pd c.data.length qd, .slice pb c.bad.length qb] ∧ Box W1 db (ds.setIfInBounds 3 (.int .i64 ((n : Int) + 1))) ∧ Up W1 W1 := ⟨b1, b2, Up.refl _⟩
  have HW : Hid (W1.heap.size = w.heap.size + 1 ∧ (ds.setIfInBounds 3 (.int .i64 ((n : Int) + 1)))[3]? = some (.int .i64 ((n : Int) + 1)) ∧ (w.alloc (.cells #[.slice pd c.data.length qd, .slice pb c.bad.length qb] 124)).setCell ⟨db, 3, none⟩ (.int .i64 ((n : Int) + 1)) = W1) := ⟨hz1, d3, hW1⟩
  clear hD hd hb hnd hdb hbase h3 hn hl hl2 hsec hM t1 b1 b2 hz1 d3 hd1 hb1
  have sof : ∀ {a b : World}, (Box a w.heap.size #[.slice pd c.data.length qd, .slice pb c.bad.length qb] ∧ Box a db (ds.setIfInBounds 3 (.int .i64 ((n : Int) + 1))) ∧ Up W1 a) → Up a b → (Box b w.heap.size #[.slice pd c.data.length qd, .slice pb c.bad.length qb] ∧ Box b db (ds.setIfInBounds 3 (.int .i64 ((n : Int) + 1))) ∧ Up W1 b) :=
    fun h u => ⟨h.1.up u, h.2.1.up u, h.2.2.trans u⟩
  go_enter Tryz.func91, Tryz.ntmps91
  go_wp2_with fail
  replace hs := sof hs (Up.drew W1)
  refine wp_region_held_drew (S := fun u => Box u w.heap.size #[.slice pd c.data.length qd, .slice pb c.bad.length qb] ∧ Box u db (ds.setIfInBounds 3 (.int .i64 ((n : Int) + 1))) ∧ Up W1 u) (by kernel_rfl) hs (fun hs0 => ?_)
  refine take_to (some 12) (i := 0) (v := .pointer (some ⟨db, 0, none⟩)) rfl rfl (by kernel_rfl) (by kernel_rfl) (by kernel_rfl) (fun _ _ _ h => h) (Or.inl ⟨by kernel_rfl, by intro u hSu; go_simp⟩) hs ?_
  simp only [Act.put, List.setIfInBounds_toArray, List.set_cons_zero, List.set_cons_succ]
  refine take_to (some 13) (i := 1) (v := .pointer (some ⟨db, 0, none⟩)) rfl rfl (by kernel_rfl) (by kernel_rfl) (by kernel_rfl) (fun _ _ _ h => h) (Or.inl ⟨by kernel_rfl, by intro u hSu; go_simp⟩) hs ?_
  simp only [Act.put, List.setIfInBounds_toArray, List.set_cons_zero, List.set_cons_succ]
  refine take_to (some 14) (i := 2) (v := .pointer (some ⟨db, 3, none⟩)) rfl rfl (by kernel_rfl) (by kernel_rfl) (by kernel_rfl) (fun _ _ _ h => h) (Or.inl ⟨by kernel_rfl, by intro u hSu; go_simp⟩) hs ?_
  simp only [Act.put, List.setIfInBounds_toArray, List.set_cons_zero, List.set_cons_succ]
  refine take_to (some 15) (i := 3) (v := .int .i64 ((n : Int) + 1)) rfl rfl (by kernel_rfl) (by kernel_rfl) (by kernel_rfl) (fun _ _ _ h => h) (Or.inl ⟨by kernel_rfl, by intro u hSu; have q := (hSu.2.1.cell 3).trans HW.out.2.1; go_simp⟩) hs ?_
  simp only [Act.put, List.setIfInBounds_toArray, List.set_cons_zero, List.set_cons_succ]
  refine take_to (some 16) (i := 4) (v := .agg #[.slice pd c.data.length qd, .slice pb c.bad.length qb]) rfl rfl (by kernel_rfl) (by kernel_rfl) (by kernel_rfl) (fun _ _ _ h => h) (Or.inl ⟨by kernel_rfl, by intro u hSu; have q0 := hSu.1.cell 0; have q1 := hSu.1.cell 1; go_simp⟩) hs ?_
  simp only [Act.put, List.setIfInBounds_toArray, List.set_cons_zero, List.set_cons_succ]
  refine take_to (some 17) (i := 5) (v := .agg #[.slice pd c.data.length qd, .slice pb c.bad.length qb]) rfl rfl (by kernel_rfl) (by kernel_rfl) (by kernel_rfl) (fun _ _ _ h => h) (Or.inl ⟨by kernel_rfl, by intro u hSu; have q0 := hSu.1.cell 0; have q1 := hSu.1.cell 1; go_simp⟩) hs ?_
  simp only [Act.put, List.setIfInBounds_toArray, List.set_cons_zero, List.set_cons_succ]
  refine take_to (some 19) (i := 7) (v := .pointer (some ⟨w.heap.size, 0, none⟩)) rfl rfl (by kernel_rfl) (by kernel_rfl) (by kernel_rfl) (fun _ _ _ h => h) (Or.inl ⟨by kernel_rfl, by intro u hSu; go_simp⟩) hs ?_
  simp only [Act.put, List.setIfInBounds_toArray, List.set_cons_zero, List.set_cons_succ]
  refine take_to (some 20) (i := 8) (v := .slice pd c.data.length qd) rfl rfl (by kernel_rfl) (by kernel_rfl) (by kernel_rfl) (fun _ _ _ h => h) (Or.inl ⟨by kernel_rfl, by intro u hSu; have q0 := hSu.1.cell 0; have q1 := hSu.1.cell 1; go_simp⟩) hs ?_
  simp only [Act.put, List.setIfInBounds_toArray, List.set_cons_zero, List.set_cons_succ]
  refine take_to (some 21) (i := 9) (v := .int .i64 (c.data.length : Int)) rfl rfl (by kernel_rfl) (by kernel_rfl) (by kernel_rfl) (fun _ _ _ h => h) (Or.inl ⟨by kernel_rfl, by intro u hSu; go_simp⟩) hs ?_
  simp only [Act.put, List.setIfInBounds_toArray, List.set_cons_zero, List.set_cons_succ]
  refine wpAnyH_ready (rs := [6]) (by kernel_rfl) (by simp) ?_
  refine AllReadyH.cons rfl (fun K hK => ?_) AllReadyH.nil
  go_simp
  refine (HC.out _ hs.2.2).mono ?_
  rintro e w1 ⟨vf, vfb, rfl, hcp⟩
  replace hs := sof hs hcp.up
  obtain ⟨p1, z1, rfl⟩ := hcp.dat.slice
  obtain ⟨p2, z2, rfl⟩ := hcp.bad.slice
  refine hK.out _ _ hs (fun _ => ?_)
  clear hK K
  refine wpAnyH_ready (rs := [10]) (by kernel_rfl) (by simp) ?_
  refine AllReadyH.cons rfl (fun K hK => ?_) AllReadyH.nil
  go_simp
  refine (HS.out _).mono ?_
  rintro e w2 ⟨rfl, hw2⟩
  obtain rfl : w1 = w2 := hw2.symm
  refine hK.out _ _ hs (fun _ => ?_)
  clear hK K
  refine wpAnyH_ready (rs := [11]) (by kernel_rfl) (by simp) ?_
  refine AllReadyH.cons rfl (fun K hK => ?_) AllReadyH.nil
  go_simp
  refine hK.out _ _ hs (fun _ => ?_)
  clear hK K
  refine wpAnyH_ready (rs := [12]) (by kernel_rfl) (by simp) ?_
  refine AllReadyH.cons rfl (fun K hK => ?_) AllReadyH.nil
  go_simp
  refine hK.out _ _ (sof hs (Up.alloc _ _)) (fun _ => ?_)
  clear hK K
  refine wpAnyH_ready (rs := [13]) (by kernel_rfl) (by simp) ?_
  refine AllReadyH.cons rfl (fun K hK => ?_) AllReadyH.nil
  go_simp
  refine hK.out _ _ (sof hs (Up.alloc _ _)) (fun _ => ?_)
  clear hK K
  refine wpAnyH_done (by kernel_rfl) ?_ _
  go_wp2
  go_ret
  obtain ⟨hD, hd, hb, hnd, hdb, hbase, _⟩ := HA.out
  obtain ⟨r0, r1, r2, r3, r4⟩ := newFile_fin (u := w1) (t := 126) hD hd hb hnd hdb hbase HM.out.symm (by rw [hW1]; exact hs.2.2) (by rw [← HW.out.1]; exact hcp.dat) (by rw [← HW.out.1]; exact hcp.bad) hcp.nd rfl
  exact ⟨_, rfl, r0, _, _, r1, fun k hk => r2 k (List.mem_append.2 hk), r3, r4⟩

end Go.Proofs.YtfhcnciimnhnlaaGreatDoor
