/- Merged: HeldTo, DkNew, DkOf. -/
import Derived.Deep.RegionHeld3
import Derived.Test.YtkfjkfpodkbkaaaGreatDoorMg10
import Derived.Lib.SliceRun
set_option linter.unusedVariables false
namespace Go.Proofs.YtkfjkfpodkbkaaaGreatDoor
open Go

theorem take_to {P : Program} {md : Region.Mode} {ops : Array Oper} {Q : Exit → Act → World → Prop} {S : World → Prop} {i : Nat} {oi : Oper} {v : Value} {fuel : Nat} {listed : Array Bool} {a : Act} {w : World} (d : Option Tmp) (hi : ops[i]? = some oi) (hd : oi.dst = d)
    (hs : Region.noSelect ops = true) (hf : Region.free md ops listed i = true) (hr : (Region.ready md ops listed).contains i = true)
    (hQ : ∀ c a w, Q (.panic c) (a.put oi.dst v) w → Q (.panic c) a w) (hy : YieldsIf P ops S oi v a) (hS : S w)
    (h : wpAnyH P md ops Q S fuel (listed.setIfInBounds i true) (a.put d v) w) : wpAnyH P md ops Q S (fuel + 1) listed a w := by
  subst hd
  exact wpAnyH_take hi hs hf hr hQ hy hS h
end Go.Proofs.YtkfjkfpodkbkaaaGreatDoor

set_option linter.unusedVariables false
set_option linter.unusedSimpArgs false
namespace Go.Proofs.YtkfjkfpodkbkaaaGreatDoor
open Go Go.RowKit

/-- Sl and SlN of own rows, told from 0 on. -/
theorem OwnB.any0 {w : World} {base : Nat} {v : Value} {bs : List UInt8} (h : OwnB w base v bs) : Sl 0 w v bs := by
  obtain ⟨a, b, c, d, e, f⟩ := h.sl
  exact ⟨a, b, c, d, e, fun h => by obtain ⟨g, o, h1, _, h3⟩ := f h; exact ⟨g, o, h1, Nat.zero_le _, h3⟩⟩
theorem OwnN.any0 {w : World} {base : Nat} {v : Value} {zs : List Nat} (h : OwnN w base v zs) : SlN 0 w v zs := by
  obtain ⟨a, b, c, d, e, f⟩ := h.sl
  exact ⟨a, b, c, d, e, fun h => by obtain ⟨g, o, h1, _, h3⟩ := f h; exact ⟨g, o, h1, Nat.zero_le _, h3⟩⟩

theorem newFile_fin {w u w' : World} {db base n M : Nat} {ds : Array Value} {vd vb vf vfb : Value} {c : Con} {t : TypeId} (hD : Box w db ds) (hd : OwnB w base vd c.data) (hb : OwnN w base vb c.bad) (hnd : (ob vd ++ ob vb).Nodup) (hdb : db ∉ ob vd ++ ob vb) (hbase : base ≤ w.heap.size)
    (hM : M = sec c.data.length) (hu : Up ((w.alloc (.cells #[vd, vb] 98)).setCell ⟨db, 3, none⟩ (.int .i64 ((n : Int) + 1))) u) (hf : OwnB u (w.heap.size + 1) vf c.data) (hfb : OwnN u (w.heap.size + 1) vfb c.bad) (hfn : (ob vf ++ ob vfb).Nodup)
    (hw : w' = u.alloc (.cells (fcells ((n : Int) + 1) vd vb vf vfb M) t)) :
    w.heap.size ≤ u.heap.size ∧ FileV w' base u.heap.size ((n : Int) + 1) vd vb vf vfb (Fil.made c) ∧ (∀ k ∈ ob vf ++ ob vfb, w.heap.size ≤ k) ∧ Box w' db (ds.setIfInBounds 3 (.int .i64 ((n : Int) + 1))) ∧ Touch w w' [db] := by
  subst hw hM
  have t0 : Touch w ((w.alloc (.cells #[vd, vb] 98)).setCell ⟨db, 3, none⟩ (.int .i64 ((n : Int) + 1))) [db] := ((Touch.refl _ _).alloc _).setCell (.inl (by simp)) _ _
  have tu : Touch w u [db] := t0.trans (Touch.of_up hu []) (fun k hk => by simp at hk)
  have tw : Touch w (u.alloc (.cells (fcells ((n : Int) + 1) vd vb vf vfb (sec c.data.length)) t)) [db] := tu.alloc _
  have ua : Up u (u.alloc (.cells (fcells ((n : Int) + 1) vd vb vf vfb (sec c.data.length)) t)) := Up.alloc _ _
  have hnew : ∀ k ∈ ob vf ++ ob vfb, w.heap.size + 1 ≤ k ∧ k < u.heap.size := fun k hk => by
    rcases List.mem_append.1 hk with h | h
    · exact hf.ge k h
    · exact hfb.ge k h
  have hold : ∀ k ∈ ob vd ++ ob vb, k < w.heap.size := fun k hk => by
    rcases List.mem_append.1 hk with h | h
    · exact (hd.ge k h).2
    · exact (hb.ge k h).2
  have hsz := tu.size
  refine ⟨hsz, ⟨Box.new _ _ _, ?_, ?_, ?_, ?_, ?_⟩, fun k hk => by have := (hnew k hk).1; omega, ?_, tw⟩
  · exact Touch.row hd tw (fun k hk => by simp; rintro rfl; exact hdb (List.mem_append_left _ (mem_ob.2 hk)))
  · exact Touch.row hb tw (fun k hk => by simp; rintro rfl; exact hdb (List.mem_append_right _ (mem_ob.2 hk)))
  · exact (hf.up ua).rebase (by omega)
  · exact (hfb.up ua).rebase (by omega)
  · rw [← List.append_assoc, List.nodup_cons, List.nodup_append]
    refine ⟨fun hm => ?_, hnd, hfn, fun x hx y hy e => ?_⟩
    · rcases List.mem_append.1 hm with h | h
      · have := hold _ h; omega
      · have := (hnew _ h).2; omega
    · subst e
      have := hold _ hx
      have := (hnew _ hy).1
      omega
  · exact (((hD.alloc _).set 3 _).up hu).up ua

set_option maxRecDepth 20000 in
set_option maxHeartbeats 800000 in
theorem newFile_any (db base n : Nat) (ds : Array Value) (vd vb : Value) (c : Con) (w : World) (hD : Box w db ds) (h3 : ds[3]? = some (.int .i64 (n : Int))) (hn : n ≤ 4611686018427387904)
    (hd : OwnB w base vd c.data) (hb : OwnN w base vb c.bad) (hnd : (ob vd ++ ob vb).Nodup) (hdb : db ∉ ob vd ++ ob vb) (hbase : base ≤ w.heap.size) (hl : c.data.length ≤ CB) (hl2 : c.bad.length ≤ 10000000000000) :
    Calls Tryz.prog 49 #[.pointer (some ⟨db, 0, none⟩), .agg #[vd, vb]] w fun e w' => ∃ fb vf vfb, e = .returned (.pointer (some ⟨fb, 0, none⟩)) ∧ w.heap.size ≤ fb ∧ FileV w' base fb ((n : Int) + 1) vd vb vf vfb (Fil.made c) ∧
      (∀ k ∈ ob vf ++ ob vfb, w.heap.size ≤ k) ∧ Box w' db (ds.setIfInBounds 3 (.int .i64 ((n : Int) + 1))) ∧ Touch w w' [db] := by
  obtain ⟨pd, qd, rfl⟩ := hd.slice
  obtain ⟨pb, qb, rfl⟩ := hb.slice
  have hdl : db < w.heap.size := hD.lt
  have c3 : w.cell? ⟨db, 3, none⟩ = some (.int .i64 (n : Int)) := by rw [hD.cell]; exact h3
  have f3 : w.frozen? ⟨db, 3, none⟩ = false := hD.frozen 3
  have e1 : IntKind.i64.wrap ((n : Int) + 1) = (n : Int) + 1 := by rw [IntKind.wrap_i64]; omega
  have HA : Hid (Box w db ds ∧ OwnB w base (.slice pd c.data.length qd) c.data ∧ OwnN w base (.slice pb c.bad.length qb) c.bad ∧ (ob (.slice pd c.data.length qd) ++ ob (.slice pb c.bad.length qb)).Nodup ∧ db ∉ ob (.slice pd c.data.length qd) ++ ob (.slice pb c.bad.length qb) ∧ base ≤ w.heap.size ∧ ds[3]? = some (.int .i64 (n : Int))) := ⟨hD, hd, hb, hnd, hdb, hbase, h3⟩
  obtain ⟨W1, hW1⟩ : ∃ W1, (w.alloc (.cells #[.slice pd c.data.length qd, .slice pb c.bad.length qb] 98)).setCell ⟨db, 3, none⟩ (.int .i64 ((n : Int) + 1)) = W1 := ⟨_, rfl⟩
  have t1 : Touch w W1 [db] := by rw [← hW1]; exact ((Touch.refl _ _).alloc _).setCell (.inl (by simp)) _ _
  have b1 : Box W1 w.heap.size #[.slice pd c.data.length qd, .slice pb c.bad.length qb] := by rw [← hW1]; exact (Box.new _ _ _).other (by omega) _ _
  have b2 : Box W1 db (ds.setIfInBounds 3 (.int .i64 ((n : Int) + 1))) := by rw [← hW1]; exact (hD.alloc _).set 3 _
  have hz1 : W1.heap.size = w.heap.size + 1 := by rw [← hW1]; simp
  have d3 : (ds.setIfInBounds 3 (.int .i64 ((n : Int) + 1)))[3]? = some (.int .i64 ((n : Int) + 1)) := by
    rw [Array.getElem?_setIfInBounds_self_of_lt (Array.getElem?_eq_some_iff.1 h3).1]
  have hd1 : OwnB W1 base (.slice pd c.data.length qd) c.data := Touch.row hd t1 (fun k hk => by simp; rintro rfl; exact hdb (List.mem_append_left _ (mem_ob.2 hk)))
  have hb1 : OwnN W1 base (.slice pb c.bad.length qb) c.bad := Touch.row hb t1 (fun k hk => by simp; rintro rfl; exact hdb (List.mem_append_right _ (mem_ob.2 hk)))
  have hsec := fun u => sectors_any c.data.length (by unfold CB at hl; omega) u
  obtain ⟨M, hM⟩ : ∃ M, sec c.data.length = M := ⟨_, rfl⟩
  rw [hM] at hsec
  have HS : Hid (∀ u, Calls Tryz.prog 94 #[.int .i64 (c.data.length : Int)] u fun e w' => e = .returned (.int .i64 (M : Int)) ∧ w' = u) := hsec
  have HC : Hid (∀ u, Up W1 u → Calls Tryz.prog 64 #[.agg #[.slice pd c.data.length qd, .slice pb c.bad.length qb]] u fun e w' => ∃ vd' vb', e = .returned (.agg #[vd', vb']) ∧ Copied u w' u.heap.size vd' vb' c) :=
    fun u hu => clone_any _ _ c u (hd1.up hu).any0 (hb1.up hu).any0 hl hl2
  have HM : Hid (sec c.data.length = M) := hM
  have hs : Box W1 w.heap.size #[.slice pd c.data.length qd, .slice pb c.bad.length qb] ∧ Box W1 db (ds.setIfInBounds 3 (.int .i64 ((n : Int) + 1))) ∧ Up W1 W1 := ⟨b1, b2, Up.refl _⟩
  have HW : Hid (W1.heap.size = w.heap.size + 1 ∧ (ds.setIfInBounds 3 (.int .i64 ((n : Int) + 1)))[3]? = some (.int .i64 ((n : Int) + 1)) ∧ (w.alloc (.cells #[.slice pd c.data.length qd, .slice pb c.bad.length qb] 98)).setCell ⟨db, 3, none⟩ (.int .i64 ((n : Int) + 1)) = W1) := ⟨hz1, d3, hW1⟩
  clear hD hd hb hnd hdb hbase h3 hn hl hl2 hsec hM t1 b1 b2 hz1 d3 hd1 hb1
  have sof : ∀ {a b : World}, (Box a w.heap.size #[.slice pd c.data.length qd, .slice pb c.bad.length qb] ∧ Box a db (ds.setIfInBounds 3 (.int .i64 ((n : Int) + 1))) ∧ Up W1 a) → Up a b → (Box b w.heap.size #[.slice pd c.data.length qd, .slice pb c.bad.length qb] ∧ Box b db (ds.setIfInBounds 3 (.int .i64 ((n : Int) + 1))) ∧ Up W1 b) :=
    fun h u => ⟨h.1.up u, h.2.1.up u, h.2.2.trans u⟩
  go_enter Tryz.func49, Tryz.ntmps49
  go_wp2_with fail
  replace hs := sof hs (Up.drew W1)
  refine wp_region_held_drew (S := fun u => Box u w.heap.size #[.slice pd c.data.length qd, .slice pb c.bad.length qb] ∧ Box u db (ds.setIfInBounds 3 (.int .i64 ((n : Int) + 1))) ∧ Up W1 u) (by kernel_rfl) hs (fun hs0 => ?_)
  refine take_to (some 12) (i := 0) (v := .pointer (some ⟨db, 0, none⟩)) rfl rfl (by kernel_rfl) (by kernel_rfl) (by kernel_rfl) (fun _ _ _ h => h) (Or.inl ⟨by kernel_rfl, by intro u hSu; go_simp⟩) hs ?_
  simp only [Act.put, List.setIfInBounds_toArray, List.set_cons_zero, List.set_cons_succ]
  refine take_to (some 13) (i := 1) (v := .pointer (some ⟨db, 0, none⟩)) rfl rfl (by kernel_rfl) (by kernel_rfl) (by kernel_rfl) (fun _ _ _ h => h) (Or.inl ⟨by kernel_rfl, by intro u hSu; go_simp⟩) hs ?_
  simp only [Act.put, List.setIfInBounds_toArray, List.set_cons_zero, List.set_cons_succ]
  refine take_to (some 14) (i := 2) (v := .pointer (some ⟨db, 3, none⟩)) rfl rfl (by kernel_rfl) (by kernel_rfl) (by kernel_rfl) (fun _ _ _ h => h) (Or.inl ⟨by kernel_rfl, by intro u hSu; go_simp⟩) hs ?_
  simp only [Act.put, List.setIfInBounds_toArray, List.set_cons_zero, List.set_cons_succ]
  refine take_to (some 15) (i := 3) (v := .int .i64 ((n : Int) + 1)) rfl rfl (by kernel_rfl) (by kernel_rfl) (by kernel_rfl) (fun _ _ _ h => h) (Or.inl ⟨by kernel_rfl, by intro u hSu; have q := (hSu.2.1.cell 3).trans HW.out.2.1; go_simp⟩) hs ?_
  simp only [Act.put, List.setIfInBounds_toArray, List.set_cons_zero, List.set_cons_succ]
  refine take_to (some 16) (i := 4) (v := .agg #[.slice pd c.data.length qd, .slice pb c.bad.length qb]) rfl rfl (by kernel_rfl) (by kernel_rfl) (by kernel_rfl) (fun _ _ _ h => h) (Or.inl ⟨by kernel_rfl, by intro u hSu; have q0 := hSu.1.cell 0; have q1 := hSu.1.cell 1; go_simp⟩) hs ?_
  simp only [Act.put, List.setIfInBounds_toArray, List.set_cons_zero, List.set_cons_succ]
  refine take_to (some 17) (i := 5) (v := .agg #[.slice pd c.data.length qd, .slice pb c.bad.length qb]) rfl rfl (by kernel_rfl) (by kernel_rfl) (by kernel_rfl) (fun _ _ _ h => h) (Or.inl ⟨by kernel_rfl, by intro u hSu; have q0 := hSu.1.cell 0; have q1 := hSu.1.cell 1; go_simp⟩) hs ?_
  simp only [Act.put, List.setIfInBounds_toArray, List.set_cons_zero, List.set_cons_succ]
  refine take_to (some 19) (i := 7) (v := .pointer (some ⟨w.heap.size, 0, none⟩)) rfl rfl (by kernel_rfl) (by kernel_rfl) (by kernel_rfl) (fun _ _ _ h => h) (Or.inl ⟨by kernel_rfl, by intro u hSu; go_simp⟩) hs ?_
  simp only [Act.put, List.setIfInBounds_toArray, List.set_cons_zero, List.set_cons_succ]
  refine take_to (some 20) (i := 8) (v := .slice pd c.data.length qd) rfl rfl (by kernel_rfl) (by kernel_rfl) (by kernel_rfl) (fun _ _ _ h => h) (Or.inl ⟨by kernel_rfl, by intro u hSu; have q0 := hSu.1.cell 0; have q1 := hSu.1.cell 1; go_simp⟩) hs ?_
  simp only [Act.put, List.setIfInBounds_toArray, List.set_cons_zero, List.set_cons_succ]
  refine take_to (some 21) (i := 9) (v := .int .i64 (c.data.length : Int)) rfl rfl (by kernel_rfl) (by kernel_rfl) (by kernel_rfl) (fun _ _ _ h => h) (Or.inl ⟨by kernel_rfl, by intro u hSu; go_simp⟩) hs ?_
  simp only [Act.put, List.setIfInBounds_toArray, List.set_cons_zero, List.set_cons_succ]
  refine wpAnyH_ready (rs := [6]) (by kernel_rfl) (by simp) ?_
  refine AllReadyH.cons rfl (fun K hK => ?_) AllReadyH.nil
  go_simp
  refine (HC.out _ hs.2.2).mono ?_
  rintro e w1 ⟨vf, vfb, rfl, hcp⟩
  replace hs := sof hs hcp.up
  obtain ⟨p1, z1, rfl⟩ := hcp.dat.slice
  obtain ⟨p2, z2, rfl⟩ := hcp.bad.slice
  refine hK.out _ _ hs (fun _ => ?_)
  clear hK K
  refine wpAnyH_ready (rs := [10]) (by kernel_rfl) (by simp) ?_
  refine AllReadyH.cons rfl (fun K hK => ?_) AllReadyH.nil
  go_simp
  refine (HS.out _).mono ?_
  rintro e w2 ⟨rfl, hw2⟩
  obtain rfl : w1 = w2 := hw2.symm
  refine hK.out _ _ hs (fun _ => ?_)
  clear hK K
  refine wpAnyH_ready (rs := [11]) (by kernel_rfl) (by simp) ?_
  refine AllReadyH.cons rfl (fun K hK => ?_) AllReadyH.nil
  go_simp
  refine hK.out _ _ hs (fun _ => ?_)
  clear hK K
  refine wpAnyH_ready (rs := [12]) (by kernel_rfl) (by simp) ?_
  refine AllReadyH.cons rfl (fun K hK => ?_) AllReadyH.nil
  go_simp
  refine hK.out _ _ (sof hs (Up.alloc _ _)) (fun _ => ?_)
  clear hK K
  refine wpAnyH_ready (rs := [13]) (by kernel_rfl) (by simp) ?_
  refine AllReadyH.cons rfl (fun K hK => ?_) AllReadyH.nil
  go_simp
  refine hK.out _ _ (sof hs (Up.alloc _ _)) (fun _ => ?_)
  clear hK K
  refine wpAnyH_done (by kernel_rfl) ?_ _
  go_wp2
  go_ret
  obtain ⟨hD, hd, hb, hnd, hdb, hbase, _⟩ := HA.out
  obtain ⟨r0, r1, r2, r3, r4⟩ := newFile_fin (u := w1) (t := 113) hD hd hb hnd hdb hbase HM.out.symm (by rw [hW1]; exact hs.2.2) (by rw [← HW.out.1]; exact hcp.dat) (by rw [← HW.out.1]; exact hcp.bad) hcp.nd rfl
  exact ⟨_, rfl, r0, _, _, r1, fun k hk => r2 k (List.mem_append.2 hk), r3, r4⟩

end Go.Proofs.YtkfjkfpodkbkaaaGreatDoor

set_option linter.unusedVariables false
set_option linter.unusedSimpArgs false
namespace Go.Proofs.YtkfjkfpodkbkaaaGreatDoor
open Go Go.RowKit

/-- Zeros in sector i; in all of these. -/
def wipe (d : List UInt8) (i : Nat) : List UInt8 := d.take (512 * i) ++ List.replicate (sect d i).length 0 ++ d.drop (512 * i + (sect d i).length)
def wiped (d : List UInt8) (bs : List Nat) : List UInt8 := bs.foldl wipe d

theorem wipe_length {d : List UInt8} {i : Nat} (h : 512 * i ≤ d.length) : (wipe d i).length = d.length := by
  simp only [wipe, List.length_append, List.length_take, List.length_replicate, List.length_drop, sect_length]; omega
theorem wiped_snoc (d : List UInt8) (bs : List Nat) (i : Nat) : wiped d (bs ++ [i]) = wipe (wiped d bs) i := by simp [wiped, List.foldl_append]
theorem wiped_length {d : List UInt8} : ∀ {bs : List Nat}, (∀ i ∈ bs, 512 * i ≤ d.length) → (wiped d bs).length = d.length := by
  intro bs
  induction bs generalizing d with
  | nil => intro _; rfl
  | cons i bs ih =>
    intro h
    have hi := wipe_length (h i (by simp))
    show (wiped (wipe d i) bs).length = _
    rw [ih (fun j hj => by rw [hi]; exact h j (by simp [hj])), hi]

theorem zeroB (w : World) : (zeroValue 5).run Tryz.prog w = .ok (.int .u8 0) w := by kernel_rfl

theorem OwnB.wipe {w : World} {base g cap : Nat} {d : List UInt8} (h : OwnB w base (.slice (some ⟨g, 0, none⟩) d.length cap) d) (i c' : Nat) (hi : 512 * i < d.length) :
    (∀ ty, (Builtin.clear_ #[60] ty #[.slice (some ⟨g, 512 * i, none⟩) (sect d i).length c']).run Tryz.prog w = .ok (.tuple #[]) (w.setCells g (512 * i) (List.replicate (sect d i).length (.int .u8 0)))) ∧
    OwnB (w.setCells g (512 * i) (List.replicate (sect d i).length (.int .u8 0))) base (.slice (some ⟨g, 0, none⟩) d.length cap) (Proofs.YtkfjkfpodkbkaaaGreatDoor.wipe d i) ∧ Touch w (w.setCells g (512 * i) (List.replicate (sect d i).length (.int .u8 0))) [g] := by
  rcases h.parts with ⟨e, _⟩ | ⟨g', cap', cur, e, hb, hlt, hg, hnc, hcm, hcs, ht⟩
  · cases e
  · simp only [Value.slice.injEq, Option.some.injEq, Addr.mk.injEq] at e
    obtain ⟨⟨rfl, _⟩, _, rfl⟩ := e
    have hn : (sect d i).length = min 512 (d.length - 512 * i) := sect_length _ _
    have bx : Box w g cur := ⟨_, hg⟩
    refine ⟨fun ty => Lib.run_clear_slice w 60 5 ty (.int .u8 0) Tryz.underlying60 zeroB rfl rfl g (512 * i) _ c' (by omega) (fun j hj => ?_) (fun j hj => bx.frozen _), ?_, touch_setCells _ _ (Touch.refl _ _) (.inl (by simp))⟩
    · rw [bx.cell, Array.getElem?_eq_getElem (by omega)]; rfl
    · have h2 := heap_setCells g 5 (List.replicate (sect d i).length (.int .u8 0)) (512 * i) w cur hg (by rw [List.length_replicate]; omega)
      have hl : (Proofs.YtkfjkfpodkbkaaaGreatDoor.wipe d i).length = d.length := wipe_length (by omega)
      have hcl : cur.toList.length = cap := by simpa using hcs
      have h3 := OwnB.mk (w := w.setCells g (512 * i) (List.replicate (sect d i).length (.int .u8 0))) (base := base) (bs := Proofs.YtkfjkfpodkbkaaaGreatDoor.wipe d i) hb h2 (by rw [hl]; exact hnc) hcm (by simp; omega) (by
        rw [hl]
        have e1 : Bv (Proofs.YtkfjkfpodkbkaaaGreatDoor.wipe d i) = (Bv d).take (512 * i) ++ List.replicate (sect d i).length (.int .u8 0) ++ (Bv d).drop (512 * i + (sect d i).length) := by
          simp [Proofs.YtkfjkfpodkbkaaaGreatDoor.wipe, Bv, List.map_append, List.map_take, List.map_drop]
        rw [e1, ← ht, List.take_take, show min (512 * i) d.length = 512 * i by omega, List.drop_take, List.length_replicate]
        rw [List.take_append, List.take_append, List.take_of_length_le (show (cur.toList.take (512 * i)).length ≤ d.length by rw [List.length_take]; omega), List.take_of_length_le (show (List.replicate (sect d i).length (Value.int .u8 0)).length ≤ _ by rw [List.length_replicate, List.length_take]; omega)]
        congr 2
        simp only [List.length_append, List.length_take, List.length_replicate]
        omega)
      rw [hl] at h3
      exact h3

theorem left_wipe {w wr : World} {cb g cap : Nat} {vb : Value} {d : List UInt8} {bad : List Nat} (h : LeftR w wr cb (.slice (some ⟨g, 0, none⟩) d.length cap) vb ⟨d, bad⟩) (i c' : Nat) (hi : 512 * i < d.length) :
    (∀ ty, (Builtin.clear_ #[60] ty #[.slice (some ⟨g, 512 * i, none⟩) (sect d i).length c']).run Tryz.prog wr = .ok (.tuple #[]) (wr.setCells g (512 * i) (List.replicate (sect d i).length (.int .u8 0)))) ∧
    LeftR w (wr.setCells g (512 * i) (List.replicate (sect d i).length (.int .u8 0))) cb (.slice (some ⟨g, 0, none⟩) d.length cap) vb ⟨wipe d i, bad⟩ := by
  obtain ⟨k1, k2, k3⟩ := OwnB.wipe h.inb.dat i c' hi
  have nd := h.inb.nd
  have hg : ob (Value.slice (some ⟨g, 0, none⟩) d.length cap) = [g] := by simp [ob, Value.ownBlock]
  rw [List.cons_append, List.nodup_cons, List.nodup_append, hg] at nd
  refine ⟨k1, h.grow ⟨k3.box h.inb.box (fun hm => nd.1 (List.mem_append_left _ hm)), rfl, rfl, k2, Touch.row h.inb.bad k3 (fun k hk hm => ?_), h.inb.nd⟩ (k3.mono (fun k hk => .inl (by rw [hg]; simp at hk; simp [hk])))⟩
  exact nd.2.2.2 k hm k (mem_ob.2 hk) rfl

set_option maxRecDepth 20000 in
set_option maxHeartbeats 800000 in
theorem contentOf_any (name : ByteArray) (vd vb : Value) (d : List UInt8) (bad : List Nat) (w : World) (hd : Sl 0 w vd d) (hb : SlN 0 w vb bad) (hin : ∀ i ∈ bad, 512 * i < d.length) (hl : d.length ≤ CB) (hl2 : bad.length ≤ 10000000000000) :
    Calls Tryz.prog 50 #[.agg #[.string name, vd, vb]] w fun e w' => ∃ vd' vb', e = .returned (.agg #[vd', vb']) ∧ Copied w w' w.heap.size vd' vb' ⟨wiped d bad, bad⟩ := by
  have hd0 := hd
  have hb0 := hb
  obtain ⟨ad, cd, rfl, _⟩ := hd0
  obtain ⟨ab, cb, rfl, _⟩ := hb0
  have HC : Hid (∀ u, Up w u → Calls Tryz.prog 64 #[.agg #[.slice ad d.length cd, .slice ab bad.length cb]] u fun e w' => ∃ vd' vb', e = .returned (.agg #[vd', vb']) ∧ Copied u w' u.heap.size vd' vb' ⟨d, bad⟩) :=
    fun u hu => clone_any _ _ ⟨d, bad⟩ u (hd.up hu) (hb.up hu) hl hl2
  have HA : Hid ((∀ i ∈ bad, 512 * i < d.length) ∧ d.length ≤ CB) := ⟨hin, hl⟩
  clear hd hb hin hl
  go_enter Tryz.func50, Tryz.ntmps50
  go_wp2_with fail
  obtain ⟨wA, hwA⟩ : ∃ wA, w.alloc (.cells #[.string name, .slice ad d.length cd, .slice ab bad.length cb] 94) = wA := ⟨_, rfl⟩
  have uA : Up w wA := by rw [← hwA]; exact Up.alloc _ _
  rw [hwA]
  have hz : wA.heap.size = w.heap.size + 1 := by rw [← hwA]; simp
  clear hwA
  refine (HC.out _ (uA.trans (Up.alloc _ _))).mono ?_
  rintro e w2 ⟨vd, vb, rfl, hcp⟩
  have hdat : OwnB w2 (wA.alloc (.cells #[.slice none 0 0, .slice none 0 0] 98)).heap.size vd d := hcp.dat
  have hbad : OwnN w2 (wA.alloc (.cells #[.slice none 0 0, .slice none 0 0] 98)).heap.size vb bad := hcp.bad
  obtain ⟨pd, qd, rfl⟩ := hdat.slice
  obtain ⟨pb, qb, rfl⟩ := hbad.slice
  have hqd : d.length ≤ qd := hdat.cap.2.1
  have H2 : Hid (LeftR wA (w2.alloc (.cells #[.slice pd d.length qd, .slice pb bad.length qb] 98)) w2.heap.size (.slice pd d.length qd) (.slice pb bad.length qb) ⟨wiped d (bad.take 0), bad⟩) := hcp.boxed ⟨rfl, rfl⟩
  clear hcp HC hdat hbad
  go_wp2
  go_loopg [15] bad.length (fun g i wr => ∃ k : Nat, k ≤ bad.length ∧ g = bad.length - k ∧ i = .int .i64 k ∧ Hid (LeftR wA wr w2.heap.size (.slice pd d.length qd) (.slice pb bad.length qb) ⟨wiped d (bad.take k), bad⟩))
  case atStart => exact ⟨0, by omega, rfl, rfl, H2⟩
  case round =>
    clear H2
    obtain ⟨k, hk, rfl, rfl, HR⟩ := hrel
    by_cases hlt : k < bad.length
    · obtain ⟨hin, hl⟩ := HA.out
      have hbd : OwnN wr (wA.heap.size + 1) (.slice pb bad.length qb) bad := HR.out.inb.bad
      obtain ⟨ao, cap, e, _, _, hx⟩ := hbd.sl
      simp only [Value.slice.injEq] at e
      obtain ⟨rfl, _, rfl⟩ := e
      obtain ⟨b, o, rfl, _, hat⟩ := hx (by rintro rfl; simp at hlt)
      have hci : wr.cell? ⟨b, o + k, none⟩ = some (.int .i64 ((bad[k]'hlt : Nat) : Int)) := hat k hlt
      have hI := hin _ (List.getElem_mem hlt)
      have hwl : (wiped d (bad.take k)).length = d.length := wiped_length (fun i hi => by have := hin i (List.mem_of_mem_take hi); omega)
      have hst : wiped d (bad.take (k + 1)) = wipe (wiped d (bad.take k)) (bad[k]'hlt) := by rw [List.take_succ_eq_append_getElem hlt, wiped_snoc]
      obtain ⟨I, hIe⟩ : ∃ I, bad[k]'hlt = I := ⟨_, rfl⟩
      rw [hIe] at hst hci hI
      obtain ⟨D, hD⟩ : ∃ D, wiped d (bad.take k) = D := ⟨_, rfl⟩
      rw [hD] at hst hwl HR
      have hdt : OwnB wr (wA.heap.size + 1) (.slice pd d.length qd) D := HR.out.inb.dat
      obtain ⟨g, rfl⟩ : ∃ g, pd = some ⟨g, 0, none⟩ := by
        rcases hdt.parts with ⟨e, e2⟩ | ⟨g, cap', cur, e, _⟩
        · rw [← hwl, e2] at hI; simp at hI
        · simp only [Value.slice.injEq] at e; exact ⟨g, e.1⟩
      have hse : ∀ u, Calls Tryz.prog 95 #[.agg #[.slice (some ⟨g, 0, none⟩) D.length qd, .slice (some ⟨b, o, none⟩) bad.length qb], .int .i64 (I : Int)] u fun e w' => e = .returned (.slice (some ⟨g, 512 * I, none⟩) (sect D I).length (qd - 512 * I)) ∧ Up u w' :=
        fun u => sector_any ⟨D, bad⟩ (some ⟨g, 0, none⟩) qd (.slice (some ⟨b, o, none⟩) bad.length qb) I u (by show 512 * I < D.length; omega) (by show D.length ≤ CB; omega) (by show D.length ≤ qd; omega) g rfl
      have hrun : ∀ u, Up wr u → (∀ ty, (Builtin.clear_ #[60] ty #[.slice (some ⟨g, 512 * I, none⟩) (sect D I).length (qd - 512 * I)]).run Tryz.prog u = .ok (.tuple #[]) (u.setCells g (512 * I) (List.replicate (sect D I).length (.int .u8 0)))) ∧
          LeftR wA (u.setCells g (512 * I) (List.replicate (sect D I).length (.int .u8 0))) w2.heap.size (.slice (some ⟨g, 0, none⟩) d.length qd) (.slice (some ⟨b, o, none⟩) bad.length qb) ⟨wiped d (bad.take (k + 1)), bad⟩ := fun u hu => by
        have h5 : LeftR wA u w2.heap.size (.slice (some ⟨g, 0, none⟩) D.length qd) (.slice (some ⟨b, o, none⟩) bad.length qb) ⟨D, bad⟩ := by rw [hwl]; exact HR.out.more hu
        obtain ⟨k1, k2⟩ := left_wipe h5 I (qd - 512 * I) (by omega)
        rw [hwl] at k2
        exact ⟨k1, by rw [hst]; exact k2⟩
      obtain ⟨n, hn⟩ : ∃ n, (sect D I).length = n := ⟨_, rfl⟩
      obtain ⟨S, hS⟩ : ∃ S, 512 * I = S := ⟨_, rfl⟩
      have e2 : (I : Int) ≤ 4611686018427387904 := by unfold CB at hl; omega
      have e3 : (0 : Int) ≤ (I : Int) := by omega
      rw [hwl, hn, hS] at hse
      rw [hn, hS] at hrun
      have HS : Hid (∀ u, Calls Tryz.prog 95 #[.agg #[.slice (some ⟨g, 0, none⟩) d.length qd, .slice (some ⟨b, o, none⟩) bad.length qb], .int .i64 (I : Int)] u fun e w' => e = .returned (.slice (some ⟨g, S, none⟩) n (qd - S)) ∧ Up u w') := hse
      have HRun : Hid (∀ u, Up wr u → (∀ ty, (Builtin.clear_ #[60] ty #[.slice (some ⟨g, S, none⟩) n (qd - S)]).run Tryz.prog u = .ok (.tuple #[]) (u.setCells g S (List.replicate n (.int .u8 0)))) ∧
          LeftR wA (u.setCells g S (List.replicate n (.int .u8 0))) w2.heap.size (.slice (some ⟨g, 0, none⟩) d.length qd) (.slice (some ⟨b, o, none⟩) bad.length qb) ⟨wiped d (bad.take (k + 1)), bad⟩) := hrun
      have k0 : wr.cell? ⟨w2.heap.size, 0, none⟩ = some (.slice (some ⟨g, 0, none⟩) d.length qd) := HR.out.inb.box.cell 0
      have k1 : wr.cell? ⟨w2.heap.size, 1, none⟩ = some (.slice (some ⟨b, o, none⟩) bad.length qb) := HR.out.inb.box.cell 1
      have Hlt : Hid (k < bad.length) := hlt
      clear hse hrun hn hS hwl hst hD hdt hI hin hl hat hx hbd hIe HR hlt hqd
      go_wp2_with fail
      refine (HS.out _).mono ?_
      rintro e w4 ⟨rfl, u4⟩
      obtain ⟨hcl, h5⟩ := HRun.out w4 u4
      obtain ⟨w5, hw5⟩ : ∃ w5, w4.setCells g S (List.replicate n (.int .u8 0)) = w5 := ⟨_, rfl⟩
      rw [hw5] at hcl h5
      have H5 : Hid (LeftR wA w5 w2.heap.size (.slice (some ⟨g, 0, none⟩) d.length qd) (.slice (some ⟨b, o, none⟩) bad.length qb) ⟨wiped d (bad.take (k + 1)), bad⟩) := h5
      clear h5 HRun HS hw5 u4
      go_wp2_with (simp only [hcl])
      go_roundg (bad.length - (k + 1))
      case measure => have := Hlt.out; omega
      case rel => exact ⟨k + 1, Hlt.out, rfl, by go_num, H5⟩
    · obtain rfl : k = bad.length := by omega
      rw [List.take_length] at HR
      have k0 : wr.cell? ⟨w2.heap.size, 0, none⟩ = some (.slice pd d.length qd) := HR.out.inb.box.cell 0
      have k1 : wr.cell? ⟨w2.heap.size, 1, none⟩ = some (.slice pb bad.length qb) := HR.out.inb.box.cell 1
      have br := HR.out.res
      have hdone := HR.out.done
      rw [hz] at br hdone
      have r0 := br.cell 0
      have r1 := br.cell 1
      have f0 := br.frozen 0
      have f1 := br.frozen 1
      have b9 := (br.set 0 (.slice pd d.length qd)).set 1 (.slice pb bad.length qb)
      have d0 := b9.cell 0
      have d1 := b9.cell 1
      have HD : Hid (Copied wA ((wr.setCell ⟨w.heap.size + 1, 0, none⟩ (.slice pd d.length qd)).setCell ⟨w.heap.size + 1, 1, none⟩ (.slice pb bad.length qb)) (w.heap.size + 1) (.slice pd d.length qd) (.slice pb bad.length qb) ⟨wiped d bad, bad⟩) := hdone
      clear hlt br hdone
      go_wp2
      refine bodyPost_ret (v := .agg #[.slice pd d.length qd, .slice pb bad.length qb]) (by simp [results, Tryz.results50, go_sem, d0, d1]) rfl ⟨_, _, rfl, ?_⟩
      exact ⟨HD.out.dat.rebase (by omega), HD.out.bad.rebase (by omega), HD.out.nd, uA.trans HD.out.up⟩

theorem wipe_over {d : List UInt8} {i : Nat} (h : 512 * i ≤ d.length) : wipe d i = over d (512 * i) (List.replicate (sect d i).length 0) := by
  have hn := sect_length d i
  unfold wipe over
  rw [List.length_replicate, show 512 * i + (sect d i).length - d.length = 0 by omega]
  simp
theorem wipe_get {d : List UInt8} {i : Nat} (h : 512 * i ≤ d.length) (p : Nat) : (wipe d i).getD p 0 = if p / 512 = i then 0 else d.getD p 0 := by
  have hn := sect_length d i
  rw [wipe_over h, over_get, List.length_replicate]
  by_cases h1 : 512 * i ≤ p ∧ p < 512 * i + (sect d i).length
  · rw [if_pos h1, if_pos (by omega), getD_zeros]
  · rw [if_neg h1]
    by_cases h2 : p / 512 = i
    · rw [if_pos h2, getD_far _ _ (by omega)]
    · rw [if_neg h2]
theorem wiped_get {d : List UInt8} {bs : List Nat} (h : ∀ i ∈ bs, 512 * i ≤ d.length) (p : Nat) : (wiped d bs).getD p 0 = if p / 512 ∈ bs then 0 else d.getD p 0 := by
  induction bs generalizing d with
  | nil => simp [wiped]
  | cons i bs ih =>
    have hi := h i (by simp)
    show (wiped (wipe d i) bs).getD p 0 = _
    rw [ih (fun j hj => by rw [wipe_length hi]; exact h j (by simp [hj])), wipe_get hi]
    by_cases h1 : p / 512 ∈ bs
    · simp [h1]
    · by_cases h2 : p / 512 = i <;> simp [h1, h2]
/-- A file of an image, as a content. -/
theorem wiped_ok {d : List UInt8} {bs : List Nat} (hr : bs.Pairwise (· < ·)) (h : ∀ i ∈ bs, 512 * i < d.length) : (⟨wiped d bs, bs⟩ : Con).Ok where
  rise := hr
  there := fun i hi => by
    show i < sec (wiped d bs).length
    rw [wiped_length (fun i hi => Nat.le_of_lt (h i hi)), sec_lt]
    exact h i hi
  zero := fun i hi p h1 h2 => by
    show (wiped d bs).getD p 0 = 0
    rw [wiped_get (fun i hi => Nat.le_of_lt (h i hi)), if_pos (by rw [show p / 512 = i by omega]; exact hi)]

end Go.Proofs.YtkfjkfpodkbkaaaGreatDoor
