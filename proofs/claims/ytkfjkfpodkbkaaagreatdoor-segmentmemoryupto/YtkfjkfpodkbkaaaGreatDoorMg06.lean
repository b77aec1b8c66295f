/- Merged: DkPut. -/
import Derived.Test.YtkfjkfpodkbkaaaGreatDoorMg05
import Derived.Deep.RegionLaw
import Derived.Deep.CutBlock
import Derived.Deep.DeepCutAuto
import Derived.Deep.Light
import Derived.Deep.RegionWith
import Derived.Deep.QuietTactic
import Derived.BigQuiet
import Derived.Lib.SliceRun
set_option linter.unusedVariables false
set_option linter.unusedSimpArgs false
namespace Go.Proofs.YtkfjkfpodkbkaaaGreatDoor
open Go Go.RowKit

/-- append, as one step of a region that draws, where its run is known. -/
theorem step_app_run {ops : Array Oper} {o : Oper} {a : Act} {w : World} {K : Act → World → Prop} {Q : Exit → Act → World → Prop} {E : Prop}
    (hg : o.guard = none) (s x : Operand) (t tn : TypeId) (hop : o.op = Op.call { callee := Callee.builtin Builtin.append, args := #[s, x], argTypes := #[t, tn] })
    (v u : Value) (hs : a.eval s = v) (hx : a.eval x = u) {v' : Value} {w' : World} (hr : (Builtin.append_ #[t, tn] o.type #[v, u]).run Tryz.prog w = .ok v' w') (hK : K (a.put o.dst v') w') :
    if Region.wanted o (yielded ops a.tmps) = true then Oper.wp Tryz.prog o a w K Q else E := by
  have hw : Region.wanted o (yielded ops a.tmps) = true := by simp [Region.wanted, hg]
  rw [if_pos hw]
  exact Lib.wp_append_run w s x t tn hop v u hs hx v' w' hr hK

/-- An operation of a drawn region that is taken first, its slot said outright. -/
theorem take_any {P : Program} {md : Region.Mode} {ops : Array Oper} {Q : Exit → Act → World → Prop} {i : Nat} {oi : Oper} {v : Value} {fuel : Nat} {listed : Array Bool} {a : Act} {w : World} (d : Option Tmp) (hi : ops[i]? = some oi) (hd : oi.dst = d)
    (hs : Region.noSelect ops = true) (hf : Region.free md ops listed i = true) (hr : (Region.ready md ops listed).contains i = true)
    (hQ : ∀ c a w, Q (.panic c) (a.put oi.dst v) w → Q (.panic c) a w) (hy : Yields P ops oi v a)
    (h : wpAny P md ops Q fuel (listed.setIfInBounds i true) (a.put d v) w) : wpAny P md ops Q (fuel + 1) listed a w := by
  subst hd
  exact wpAny_take hi hs hf hr hQ hy h

/-- What BinarySearch answers of whether it is there. -/
def there (zs : List Nat) (x : Nat) : Bool := (zs.map fun (n : Nat) => (n : Int)).contains (x : Int)

theorem search_call (base : Nat) (v : Value) (zs : List Nat) (x : Nat) (w : World) (h : OwnN w base v zs) (hr : zs.Pairwise (· < ·)) (hbd : zs.length ≤ 20000000000000) :
    Calls Tryz.prog 141 #[v, .int .i64 (x : Int)] w fun e w' => e = .returned (.tuple #[.int .i64 (cnt zs x : Nat), .bool (there zs x)]) ∧ ∃ q, w' = w.drewN q := by
  have h' := h
  obtain ⟨hl, ⟨rfl, hn⟩ | ⟨g, cap, cur, rfl, hb, hg, hnc, hcm, hcs, ht⟩⟩ := h
  · obtain rfl : zs = [] := List.eq_nil_of_length_eq_zero hn
    refine (search_none _ 0 w).mono ?_
    rintro e w' ⟨rfl, rfl⟩
    exact ⟨rfl, 0, rfl⟩
  · have ha := OwnN.at h'
    have hlen : (zs.map fun (n : Nat) => (n : Int)).length = zs.length := List.length_map _
    have hc := Tryz.slices_BinarySearch_int g 0 zs.length cap (zs.map fun (n : Nat) => (n : Int)) x w (by rw [hlen]; exact Nat.le_refl _) (by omega)
      (fun j hj => by rw [hlen] at hj; rw [ha j hj]; simp [List.getD_eq_getElem?_getD, hj])
      (by
        rw [List.take_of_length_le (by rw [hlen]; exact Nat.le_refl _)]
        exact List.pairwise_map.2 (hr.imp fun hab => by omega))
    refine hc.mono ?_
    rintro e w' ⟨rfl, q, rfl⟩
    rw [List.take_of_length_le (by rw [hlen]; exact Nat.le_refl _), cntI]
    exact ⟨rfl, q, rfl⟩

theorem OwnB.slice {w : World} {base : Nat} {v : Value} {bs : List UInt8} (h : OwnB w base v bs) : ∃ p cap, v = .slice p bs.length cap := by
  rcases h.parts with ⟨rfl, rfl⟩ | ⟨g, cap, cur, rfl, _⟩
  · exact ⟨none, 0, rfl⟩
  · exact ⟨_, _, rfl⟩
theorem OwnN.slice {w : World} {base : Nat} {v : Value} {zs : List Nat} (h : OwnN w base v zs) : ∃ p cap, v = .slice p zs.length cap := by
  rcases h.parts with ⟨rfl, rfl⟩ | ⟨g, cap, cur, rfl, _⟩
  · exact ⟨none, 0, rfl⟩
  · exact ⟨_, _, rfl⟩

/-- A content in two cells, and all that lies apart. -/
structure InBox (w : World) (b o : Nat) (cs : Array Value) (base : Nat) (vd vb : Value) (c : Con) : Prop where
  box : Box w b cs
  d0 : cs[o]? = some vd
  d1 : cs[o + 1]? = some vb
  dat : OwnB w base vd c.data
  bad : OwnN w base vb c.bad
  nd : (b :: ob vd ++ ob vb).Nodup

set_option maxHeartbeats 1000000 in
set_option maxRecDepth 20000 in
theorem put_some (base b o s : Nat) (cs : Array Value) (vd vb vs : Value) (c : Con) (d : List UInt8) (w : World)
    (hI : InBox w b o cs base vd vb c) (hr : c.bad.Pairwise (· < ·)) (hbase : base ≤ w.heap.size)
    (hs : Sl 0 w vs d) (hsn : ∀ k, vs.ownBlock = some k → k ∉ ob vd ∧ k ≠ b) (hne : d ≠ []) (hl : s + d.length ≤ CB) (hl2 : c.data.length ≤ CB) (hl3 : c.bad.length ≤ 10000000000000) :
    Calls Tryz.prog 101 #[.pointer (some ⟨b, o, none⟩), .int .i64 (s : Int), vs] w fun e w' => ∃ vd' vb', e = .returned (.tuple #[]) ∧ InBox w' b o ((cs.setIfInBounds o vd').setIfInBounds (o + 1) vb') base vd' vb' (c.put s d) ∧
      (∀ k ∈ ob vd', k ∈ ob vd ∨ w.heap.size ≤ k) ∧ ob vb' = ob vb ∧ Touch w w' (b :: ob vd ++ ob vb) := by
  unfold CB at hl hl2
  obtain ⟨hx, h0, h1, hd, hb, nd⟩ := hI
  obtain ⟨v1, w1, hrun, hd1, hn1, ht1⟩ := app_zeros base vd c.data (s + d.length - c.data.length) w.drew hd (by unfold CB; omega) hbase
  have c0 : w.cell? ⟨b, o, none⟩ = some vd := by rw [hx.cell, h0]
  obtain ⟨ao, cap, rfl, hcap, hnil, hsx⟩ := hs
  obtain ⟨bs, os, rfl, _, hat⟩ := hsx hne
  have hs1 := hsn bs rfl
  obtain ⟨pa, capd, rfl⟩ := hd.slice
  have e1 : (((d.length : Nat) : Int) == 0) = false := by
    have : 0 < d.length := List.length_pos_iff.2 hne
    simp; omega
  have dpos : 0 < d.length := List.length_pos_iff.2 hne
  obtain ⟨E, hE⟩ : ∃ E : Nat, s + d.length = E := ⟨_, rfl⟩
  have e2 : (s : Int) + (d.length : Int) = (E : Int) := by omega
  have e3 : (0 : Int) ≤ (E : Int) := by omega
  have e4 : (E : Int) ≤ 4611686018427387904 := by omega
  rw [hE] at hrun hd1 hl
  have nd' := nd
  rw [List.cons_append, List.nodup_cons] at nd'
  have hbd : b ∉ ob (Value.slice pa c.data.length capd) := fun hm => nd'.1 (List.mem_append_left _ hm)
  have hbb : b ∉ ob vb := fun hm => nd'.1 (List.mem_append_right _ hm)
  have hx1 : Box w1 b cs := ht1.box (Box.drew hx) hbd
  have f1 : w1.frozen? ⟨b, o, none⟩ = false := hx1.frozen o
  have d1 : w1.cell? ⟨b, o, none⟩ = some (.slice pa c.data.length capd) := by rw [hx1.cell, h0]
  have e5 : (0 : Int) ≤ (c.data.length : Int) := by omega
  have e6 : (c.data.length : Int) ≤ 4611686018427387904 := by omega
  obtain ⟨N, hN⟩ : ∃ N : Nat, E - c.data.length = N := ⟨_, rfl⟩
  rw [hN] at hrun hd1
  have HN : Hid (E - c.data.length = N) := hN
  obtain ⟨X, hX⟩ : ∃ X : Int, (E : Int) - (c.data.length : Int) = X := ⟨_, rfl⟩
  have hwX : IntKind.i64.wrap X = X := by rw [IntKind.wrap_i64]; omega
  have hmX : max 0 X = (N : Int) := by omega
  -- behind the append and its store
  obtain ⟨M, hM⟩ : ∃ M, c.data ++ List.replicate N 0 = M := ⟨_, rfl⟩
  rw [hM] at hd1
  obtain ⟨p1, cap1, rfl⟩ := hd1.slice
  have hMl : M.length = max c.data.length E := by rw [← hM]; simp; omega
  obtain ⟨w2, hw2⟩ : ∃ w2, w1.setCell ⟨b, o, none⟩ (Value.slice p1 M.length cap1) = w2 := ⟨_, rfl⟩
  have t02 : Touch w w2 (b :: ob (Value.slice pa c.data.length capd) ++ ob vb) := by
    rw [← hw2]
    exact (Touch.trans (Touch.drew (Touch.refl w _)) ht1 (fun k hk => .inl (by simp [hk]))).setCell (.inl (by simp)) _ _
  have hv1n : ∀ k ∈ ob (Value.slice p1 M.length cap1), k ≠ b := fun k hk e => by
    rcases hn1 k hk with h2 | h2
    · exact hbd (e ▸ h2)
    · have := hx.lt; have h3 : w.heap.size ≤ k := h2; omega
  have hx2 : Box w2 b (cs.setIfInBounds o (Value.slice p1 M.length cap1)) := by rw [← hw2]; exact hx1.set o (Value.slice p1 M.length cap1)
  have t12 : Touch w1 w2 [b] := by rw [← hw2]; exact (Touch.refl _ _).setCell (.inl (by simp)) _ _
  have hd2 : OwnB w2 base (Value.slice p1 M.length cap1) M := Touch.row hd1 t12 (fun k hk => by simp; exact hv1n k (mem_ob.2 hk))
  have hb1 : OwnN w1 base vb c.bad := Touch.row (w := w.drew) hb ht1 (fun k hk hm => by
    rw [List.nodup_append] at nd'
    exact nd'.2.2.2 k hm k (mem_ob.2 hk) rfl)
  have hb2 : OwnN w2 base vb c.bad := Touch.row hb1 t12 (fun k hk => by simp; rintro rfl; exact hbb (mem_ob.2 hk))
  have hat2 : At w2 bs os d := t12.at (ht1.at (show At w.drew bs os d from hat) (fun _ => hs1.1)) (fun _ => by simp; exact hs1.2)
  have HR : Hid (InBox w2 b o (cs.setIfInBounds o (Value.slice p1 M.length cap1)) base (Value.slice p1 M.length cap1) vb ⟨M, c.bad⟩ ∧ Touch w w2 (b :: ob (Value.slice pa c.data.length capd) ++ ob vb) ∧ At w2 bs os d ∧ bs ∉ ob (Value.slice p1 M.length cap1)) := by
    refine ⟨⟨hx2, ?_, ?_, hd2, hb2, ?_⟩, t02, hat2, ?_⟩
    · have hlt : o < cs.size := (Array.getElem?_eq_some_iff.1 h0).1
      simp [Array.getElem?_setIfInBounds, hlt]
    · rw [Array.getElem?_setIfInBounds]; simp [h1]
    · refine nodup_swap (A := [b]) (L := ob (Value.slice pa c.data.length capd)) (B := ob vb) (n := w.heap.size) nd (ob_nodup _) hn1 (fun k hk => ?_)
      simp only [List.cons_append, List.nil_append, List.mem_cons, List.mem_append] at hk
      rcases hk with rfl | hk | hk
      · exact hx.lt
      · exact (World.ownsRow.lt hd k (mem_ob.1 hk)).2
      · exact (World.ownsRow.lt hb k (mem_ob.1 hk)).2
    · intro hm
      rcases hn1 bs hm with h2 | h2
      · exact hs1.1 h2
      · have h3 := hat.lt hne
        have h4 : w.heap.size ≤ bs := h2
        omega
  have HS : Hid (s + d.length = E ∧ E ≤ 200000000000000 ∧ c.data.length ≤ 200000000000000 ∧ c.bad.length ≤ 10000000000000 ∧ d ≠ [] ∧ M.length = max c.data.length E ∧ c.data ++ List.replicate N 0 = M ∧ c.bad.Pairwise (· < ·) ∧ 0 < d.length) := ⟨hE, hl, hl2, hl3, hne, hMl, hM, hr, dpos⟩
  have HT : Hid (∀ k ∈ ob (Value.slice p1 M.length cap1), k ∈ ob (Value.slice pa c.data.length capd) ∨ w.heap.size ≤ k) := hn1
  have HW : Hid (w1.setCell ⟨b, o, none⟩ (Value.slice p1 M.length cap1) = w2) := hw2
  clear hl hl2 hl3 hne hN hE hM hMl hr dpos t02 hv1n hx2 t12 hd2 hb1 hb2 hat2 hn1 hw2 hd1 ht1 hat nd nd' hs1 hsn hx1
  go_enter Tryz.func101, Tryz.ntmps101
  go_wp2
  go_cut [31] (fun s31 wx => Hid (InBox wx b o (cs.setIfInBounds o (Value.slice p1 M.length cap1)) base (Value.slice p1 M.length cap1) vb ⟨M, c.bad⟩ ∧ Touch w wx (b :: ob (Value.slice pa c.data.length capd) ++ ob vb) ∧ At wx bs os d ∧ bs ∉ ob (Value.slice p1 M.length cap1)))
  case first =>
    rw [← HW.out] at HR
    refine wp_region_any (by kernel_rfl) ?_
    change wpAny _ _ _ _ _ _ _ (World.drew _)
    refine take_any (some 18) (i := 0) (v := .pointer (some ⟨b, o, none⟩)) rfl rfl (by kernel_rfl) (by kernel_rfl) (by kernel_rfl) (fun _ _ _ h => h) (Or.inl ⟨by kernel_rfl, by intro w; go_simp⟩) ?_
    simp only [Act.put, List.setIfInBounds_toArray, List.set_cons_zero, List.set_cons_succ]
    refine take_any (some 19) (i := 1) (v := .pointer (some ⟨b, o, none⟩)) rfl rfl (by kernel_rfl) (by kernel_rfl) (by kernel_rfl) (fun _ _ _ h => h) (Or.inl ⟨by kernel_rfl, by intro w; go_simp⟩) ?_
    simp only [Act.put, List.setIfInBounds_toArray, List.set_cons_zero, List.set_cons_succ]
    refine take_any (some 20) (i := 2) (v := .pointer (some ⟨b, o, none⟩)) rfl rfl (by kernel_rfl) (by kernel_rfl) (by kernel_rfl) (fun _ _ _ h => h) (Or.inl ⟨by kernel_rfl, by intro w; go_simp⟩) ?_
    simp only [Act.put, List.setIfInBounds_toArray, List.set_cons_zero, List.set_cons_succ]
    refine take_any (some 21) (i := 3) (v := .pointer (some ⟨b, o, none⟩)) rfl rfl (by kernel_rfl) (by kernel_rfl) (by kernel_rfl) (fun _ _ _ h => h) (Or.inl ⟨by kernel_rfl, by intro w; go_simp⟩) ?_
    simp only [Act.put, List.setIfInBounds_toArray, List.set_cons_zero, List.set_cons_succ]
    refine take_any (some 23) (i := 5) (v := .int .i64 (E : Int)) rfl rfl (by kernel_rfl) (by kernel_rfl) (by kernel_rfl) (fun _ _ _ h => h) (Or.inl ⟨by kernel_rfl, by intro w; go_simp⟩) ?_
    simp only [Act.put, List.setIfInBounds_toArray, List.set_cons_zero, List.set_cons_succ]
    refine take_any (some 24) (i := 6) (v := .pointer (some ⟨b, o, none⟩)) rfl rfl (by kernel_rfl) (by kernel_rfl) (by kernel_rfl) (fun _ _ _ h => h) (Or.inl ⟨by kernel_rfl, by intro w; go_simp⟩) ?_
    simp only [Act.put, List.setIfInBounds_toArray, List.set_cons_zero, List.set_cons_succ]
    refine take_any (some 25) (i := 7) (v := .pointer (some ⟨b, o, none⟩)) rfl rfl (by kernel_rfl) (by kernel_rfl) (by kernel_rfl) (fun _ _ _ h => h) (Or.inl ⟨by kernel_rfl, by intro w; go_simp⟩) ?_
    simp only [Act.put, List.setIfInBounds_toArray, List.set_cons_zero, List.set_cons_succ]
    refine take_any (some 26) (i := 8) (v := .pointer (some ⟨b, o, none⟩)) rfl rfl (by kernel_rfl) (by kernel_rfl) (by kernel_rfl) (fun _ _ _ h => h) (Or.inl ⟨by kernel_rfl, by intro w; go_simp⟩) ?_
    simp only [Act.put, List.setIfInBounds_toArray, List.set_cons_zero, List.set_cons_succ]
    refine wpAny_ready (rs := [4, 9]) (by kernel_rfl) (by simp) ?_
    refine AllReady.cons rfl (fun K hK => ?_) (AllReady.cons rfl (fun K hK => ?_) AllReady.nil)
    · go_simp
      refine hK _ _ ?_
      clear hK K
      refine wpAny_ready (rs := [9]) (by kernel_rfl) (by simp) ?_
      refine AllReady.cons rfl (fun K hK => ?_) AllReady.nil
      go_simp
      refine hK _ _ ?_
      clear hK K
      refine take_any (some 28) (i := 10) (v := .int .i64 (c.data.length : Int)) rfl rfl (by kernel_rfl) (by kernel_rfl) (by kernel_rfl) (fun _ _ _ h => h) (Or.inl ⟨by kernel_rfl, by intro w; go_simp⟩) ?_
      simp only [Act.put, List.setIfInBounds_toArray, List.set_cons_zero, List.set_cons_succ]
      refine take_any (some 29) (i := 11) (v := .int .i64 X) rfl rfl (by kernel_rfl) (by kernel_rfl) (by kernel_rfl) (fun _ _ _ h => h) (Or.inl ⟨by kernel_rfl, by intro w; go_simp⟩) ?_
      simp only [Act.put, List.setIfInBounds_toArray, List.set_cons_zero, List.set_cons_succ]
      refine take_any (some 30) (i := 12) (v := .int .i64 (N : Int)) rfl rfl (by kernel_rfl) (by kernel_rfl) (by kernel_rfl) (fun _ _ _ h => h) (Or.inl ⟨by kernel_rfl, by intro w; go_simp⟩) ?_
      simp only [Act.put, List.setIfInBounds_toArray, List.set_cons_zero, List.set_cons_succ]
      refine wpAny_ready (rs := [13]) (by kernel_rfl) (by simp) ?_
      refine AllReady.cons rfl (fun K hK => ?_) AllReady.nil
      refine step_app_run rfl (.tmp 22) (.tmp 30) 60 3 rfl _ _ rfl rfl hrun ?_
      refine hK _ _ ?_
      clear hK K
      simp only [Act.put, List.setIfInBounds_toArray, List.set_cons_zero, List.set_cons_succ]
      refine take_any (some 32) (i := 14) (v := .pointer (some ⟨b, o, none⟩)) rfl rfl (by kernel_rfl) (by kernel_rfl) (by kernel_rfl) (fun _ _ _ h => h) (Or.inl ⟨by kernel_rfl, by intro w; go_simp⟩) ?_
      simp only [Act.put, List.setIfInBounds_toArray, List.set_cons_zero, List.set_cons_succ]
      refine take_any (some 33) (i := 15) (v := .pointer (some ⟨b, o, none⟩)) rfl rfl (by kernel_rfl) (by kernel_rfl) (by kernel_rfl) (fun _ _ _ h => h) (Or.inl ⟨by kernel_rfl, by intro w; go_simp⟩) ?_
      simp only [Act.put, List.setIfInBounds_toArray, List.set_cons_zero, List.set_cons_succ]
      refine wpAny_ready (rs := [16]) (by kernel_rfl) (by simp) ?_
      refine AllReady.cons rfl (fun K hK => ?_) AllReady.nil
      go_simp
      refine hK _ _ ?_
      clear hK K
      refine wpAny_done (by kernel_rfl) ?_ _
      go_wp2_with fail
      go_meet
      case rel => exact HR
    · go_simp
      refine hK _ _ ?_
      clear hK K
      refine take_any (some 28) (i := 10) (v := .int .i64 (c.data.length : Int)) rfl rfl (by kernel_rfl) (by kernel_rfl) (by kernel_rfl) (fun _ _ _ h => h) (Or.inl ⟨by kernel_rfl, by intro w; go_simp⟩) ?_
      simp only [Act.put, List.setIfInBounds_toArray, List.set_cons_zero, List.set_cons_succ]
      refine take_any (some 29) (i := 11) (v := .int .i64 X) rfl rfl (by kernel_rfl) (by kernel_rfl) (by kernel_rfl) (fun _ _ _ h => h) (Or.inl ⟨by kernel_rfl, by intro w; go_simp⟩) ?_
      simp only [Act.put, List.setIfInBounds_toArray, List.set_cons_zero, List.set_cons_succ]
      refine take_any (some 30) (i := 12) (v := .int .i64 (N : Int)) rfl rfl (by kernel_rfl) (by kernel_rfl) (by kernel_rfl) (fun _ _ _ h => h) (Or.inl ⟨by kernel_rfl, by intro w; go_simp⟩) ?_
      simp only [Act.put, List.setIfInBounds_toArray, List.set_cons_zero, List.set_cons_succ]
      refine wpAny_ready (rs := [4]) (by kernel_rfl) (by simp) ?_
      refine AllReady.cons rfl (fun K hK => ?_) AllReady.nil
      go_simp
      refine hK _ _ ?_
      clear hK K
      refine wpAny_ready (rs := [13]) (by kernel_rfl) (by simp) ?_
      refine AllReady.cons rfl (fun K hK => ?_) AllReady.nil
      refine step_app_run rfl (.tmp 22) (.tmp 30) 60 3 rfl _ _ rfl rfl hrun ?_
      refine hK _ _ ?_
      clear hK K
      simp only [Act.put, List.setIfInBounds_toArray, List.set_cons_zero, List.set_cons_succ]
      refine take_any (some 32) (i := 14) (v := .pointer (some ⟨b, o, none⟩)) rfl rfl (by kernel_rfl) (by kernel_rfl) (by kernel_rfl) (fun _ _ _ h => h) (Or.inl ⟨by kernel_rfl, by intro w; go_simp⟩) ?_
      simp only [Act.put, List.setIfInBounds_toArray, List.set_cons_zero, List.set_cons_succ]
      refine take_any (some 33) (i := 15) (v := .pointer (some ⟨b, o, none⟩)) rfl rfl (by kernel_rfl) (by kernel_rfl) (by kernel_rfl) (fun _ _ _ h => h) (Or.inl ⟨by kernel_rfl, by intro w; go_simp⟩) ?_
      simp only [Act.put, List.setIfInBounds_toArray, List.set_cons_zero, List.set_cons_succ]
      refine wpAny_ready (rs := [16]) (by kernel_rfl) (by simp) ?_
      refine AllReady.cons rfl (fun K hK => ?_) AllReady.nil
      go_simp
      refine hK _ _ ?_
      clear hK K
      refine wpAny_done (by kernel_rfl) ?_ _
      go_wp2_with fail
      go_meet
      case rel => exact HR
  case rest =>
    obtain ⟨hI2, hT2, hA2, hnb⟩ := hcut.out
    obtain ⟨hE, hl, hl2, hl3, hne, hMl, hM, hr, dpos⟩ := HS.out
    have hN' := HN.out
    have hx2 := hI2.box
    have hd2 : OwnB wc base (Value.slice p1 M.length cap1) M := hI2.dat
    have hb2 : OwnN wc base vb c.bad := hI2.bad
    have nd2 := hI2.nd
    have c20 : wc.cell? ⟨b, o, none⟩ = some (Value.slice p1 M.length cap1) := by rw [hx2.cell, hI2.d0]
    have c21 : wc.cell? ⟨b, o + 1, none⟩ = some vb := by rw [hx2.cell, hI2.d1]
    rcases hd2.parts with ⟨hn, hMn⟩ | ⟨g1, cap1', cur1, e, hb1, hlt1, hg1, hnc1, hcm1, hcs1, ht1⟩
    · exfalso; rw [hMn] at hMl; simp at hMl; omega
    · simp only [Value.slice.injEq] at e
      obtain ⟨rfl, _, rfl⟩ := e
      have hsl : s < M.length := by omega
      have hsc : s < cap1 := by omega
      have k1 : (s : Int) ≤ (M.length : Int) := by omega
      have k2 : ¬ (cap1 = s) := by omega
      have hbase2 : base ≤ wc.heap.size := Nat.le_trans hbase hT2.size
      have hg1b : g1 ≠ b := by
        rintro rfl
        have := nd2
        rw [List.cons_append, List.nodup_cons] at this
        exact this.1 (List.mem_append_left _ (by simp [ob, Value.ownBlock]))
      have hsz : (Tryz.prog.info? 5).map (·.size) = some 1 := by
        obtain ⟨i0, hi, hz0, hz1, hz2⟩ := info_parts Tryz.infoB
        rw [hi]; simp [hz1]
      have hcopy := run_copy_row (P := Tryz.prog) wc 60 60 3 5 g1 s (M.length - s) (cap1 - s) ⟨bs, os, none⟩ d.length cap cur1 5 (Bv d) Tryz.underlying60 hsz hg1
        (by rw [List.length_map]; exact (Nat.min_eq_left (by omega)).symm) hA2.add (by simp; omega) (Bv_one d)
      obtain ⟨w3, hw3⟩ : ∃ w3, wc.setRow g1 (cur1.toList.take s ++ Bv d ++ cur1.toList.drop (s + (Bv d).length)).toArray = w3 := ⟨_, rfl⟩
      rw [hw3] at hcopy
      have t23 : Touch wc w3 [g1] := by rw [← hw3]; exact (Touch.refl _ _).setRow (.inl (by simp)) _
      have hx3 : Box w3 b (cs.setIfInBounds o (.slice (some ⟨g1, 0, none⟩) M.length cap1)) := t23.box hx2 (by simp; exact fun e => hg1b e.symm)
      have hov : M.take s ++ d ++ M.drop (s + d.length) = over c.data s d := by
        unfold over
        rw [hE, hN', hM]
      have hd3 : OwnB w3 base (.slice (some ⟨g1, 0, none⟩) M.length cap1) (over c.data s d) := by
        have hol : (over c.data s d).length = M.length := by rw [over_length, hE, hMl]
        have h0 := OwnB.mk (w := w3) (base := base) (g := g1) (cap := cap1) (bs := over c.data s d) hb1 (by rw [← hw3]; exact setRow_heap _ _ _ _ _ _ hg1) (by rw [hol]; exact hnc1) hcm1 (by simp; omega) (by
          rw [hol, ← hov]
          simp only [Bv, List.map_append, List.map_take, List.map_drop]
          have hBM : cur1.toList.take M.length = M.map B := ht1
          refine List.ext_getElem? fun j => ?_
          simp only [List.getElem?_append, List.length_append, List.length_take, List.getElem?_take, List.getElem?_drop, Array.getElem?_toList, List.length_map, Array.length_toList, List.getElem?_map]
          have tk : ∀ i, i < M.length → cur1[i]? = (M[i]?).map B := fun i hi => by
            have := congrArg (·[i]?) hBM
            simp only [List.getElem?_take, if_pos hi, Array.getElem?_toList, List.getElem?_map] at this
            exact this
          rw [show min s cur1.size = s by omega, show min s M.length = s by omega]
          by_cases hj : j < M.length
          · rw [if_pos hj]
            by_cases c1 : j < s
            · rw [if_pos (by omega), if_pos c1, if_pos c1, if_pos (by omega), if_pos c1, if_pos c1, tk j hj]
            · by_cases c2 : j < s + d.length
              · rw [if_pos c2, if_neg c1, if_pos c2, if_neg c1]
              · rw [if_neg c2, if_neg c2, tk _ (by omega)]
          · rw [if_neg hj, if_neg (by omega)]
            rw [List.getElem?_eq_none (by omega)]
            rfl)
        rw [hol] at h0
        exact h0
      have hb3 : OwnN w3 base vb c.bad := Touch.row hb2 t23 (fun k hk => by
        simp
        rintro rfl
        have := nd2
        rw [List.cons_append, List.nodup_cons, List.nodup_append] at this
        exact this.2.2.2 k (by simp [ob, Value.ownBlock]) k (mem_ob.2 hk) rfl)
      have tb3 : Touch w w3 (b :: ob (Value.slice pa c.data.length capd) ++ ob vb) := by
        refine Touch.trans hT2 t23 (fun k hk => ?_)
        simp at hk
        subst hk
        rcases HT.out k (by simp [ob, Value.ownBlock]) with h2 | h2
        · exact .inl (by simp [h2])
        · exact .inr h2
      obtain ⟨Q1, hQ1⟩ : ∃ Q : Nat, s / 512 = Q := ⟨_, rfl⟩
      have q1 : (s : Int) / 512 = (Q1 : Int) := by omega
      have q10 : (0 : Int) ≤ (s : Int) := by omega
      obtain ⟨Q2, hQ2⟩ : ∃ Q : Nat, sec E = Q := ⟨_, rfl⟩
      have hcs1 : ∀ u, OwnN u base vb c.bad → Calls Tryz.prog 141 #[vb, .int .i64 (Q1 : Int)] u fun e w' => e = .returned (.tuple #[.int .i64 (cnt c.bad Q1 : Nat), .bool (there c.bad Q1)]) ∧ ∃ q, w' = u.drewN q :=
        fun u hu => search_call base vb c.bad Q1 u hu hr (by omega)
      have hcs2 : ∀ u, OwnN u base vb c.bad → Calls Tryz.prog 141 #[vb, .int .i64 (Q2 : Int)] u fun e w' => e = .returned (.tuple #[.int .i64 (cnt c.bad Q2 : Nat), .bool (there c.bad Q2)]) ∧ ∃ q, w' = u.drewN q :=
        fun u hu => search_call base vb c.bad Q2 u hu hr (by omega)
      have hsec : ∀ u, Calls Tryz.prog 94 #[.int .i64 (E : Int)] u fun e w' => e = .returned (.int .i64 (Q2 : Int)) ∧ w' = u := fun u => by
        have := sectors_any E (by omega) u
        rw [hQ2] at this
        exact this
      have hij : cnt c.bad Q1 ≤ cnt c.bad Q2 := cnt_mono _ (by rw [← hQ1, ← hQ2, ← hE]; unfold sec; omega)
      have hdel : ∀ u, OwnN u base vb c.bad → Calls Tryz.prog 142 #[vb, .int .i64 ((cnt c.bad Q1 : Nat) : Int), .int .i64 ((cnt c.bad Q2 : Nat) : Int)] u fun e w' => ∃ v', e = .returned v' ∧ OwnN w' base v' (c.bad.take (cnt c.bad Q1) ++ c.bad.drop (cnt c.bad Q2)) ∧ ob v' = ob vb ∧ Touch u w' (ob vb) :=
        fun u hu => delete_any base vb c.bad _ _ u hu hij (cnt_le _ _)
      have hout : cutOut c.bad Q1 Q2 = c.bad.take (cnt c.bad Q1) ++ c.bad.drop (cnt c.bad Q2) := rfl
      have hput : c.put s d = ⟨over c.data s d, cutOut c.bad Q1 Q2⟩ := by
        unfold Con.put
        rw [if_neg hne, hQ1, hE, hQ2]
      rw [← hout] at hdel
      obtain ⟨C1, hC1⟩ : ∃ C, cnt c.bad Q1 = C := ⟨_, rfl⟩
      obtain ⟨C2, hC2⟩ : ∃ C, cnt c.bad Q2 = C := ⟨_, rfl⟩
      obtain ⟨R, hR⟩ : ∃ R, cutOut c.bad Q1 Q2 = R := ⟨_, rfl⟩
      rw [hR] at hdel hput
      rw [hC1, hC2] at hdel
      rw [hC1] at hcs1
      rw [hC2] at hcs2
      have f30 : ∀ (u : World), u.heap = w3.heap → u.cell? ⟨b, o + 1, none⟩ = some vb ∧ u.frozen? ⟨b, o + 1, none⟩ = false ∧ OwnN u base vb c.bad := fun u hu => by
        have hbx : Box u b (cs.setIfInBounds o (.slice (some ⟨g1, 0, none⟩) M.length cap1)) := by obtain ⟨ty, h⟩ := hx3; exact ⟨ty, by rw [hu]; exact h⟩
        refine ⟨by rw [hbx.cell, hI2.d1], hbx.frozen _, ?_⟩
        unfold OwnN World.ownsRow at hb3 ⊢
        rw [hu]; exact hb3
      have HF : Hid (∀ (u : World), u.heap = w3.heap → u.cell? ⟨b, o + 1, none⟩ = some vb ∧ u.frozen? ⟨b, o + 1, none⟩ = false ∧ OwnN u base vb c.bad) := f30
      have c31 := (f30 w3 rfl).1
      have o31 := (f30 w3 rfl).2.2
      have HD : Hid (∀ u, OwnN u base vb c.bad → Calls Tryz.prog 142 #[vb, .int .i64 (C1 : Int), .int .i64 (C2 : Int)] u fun e w' => ∃ v', e = .returned v' ∧ OwnN w' base v' R ∧ ob v' = ob vb ∧ Touch u w' (ob vb)) := hdel
      have HC2 : Hid (∀ u, OwnN u base vb c.bad → Calls Tryz.prog 141 #[vb, .int .i64 (Q2 : Int)] u fun e w' => e = .returned (.tuple #[.int .i64 (C2 : Int), .bool (there c.bad Q2)]) ∧ ∃ q, w' = u.drewN q) := hcs2
      have HC1 : Hid (Calls Tryz.prog 141 #[vb, .int .i64 (Q1 : Int)] w3 fun e w' => e = .returned (.tuple #[.int .i64 (C1 : Int), .bool (there c.bad Q1)]) ∧ ∃ q, w' = w3.drewN q) := hcs1 w3 o31
      have HSE : Hid (∀ u, Calls Tryz.prog 94 #[.int .i64 (E : Int)] u fun e w' => e = .returned (.int .i64 (Q2 : Int)) ∧ w' = u) := hsec
      have HP : Hid (c.put s d = ⟨over c.data s d, R⟩) := hput
      have HX3 : Hid (Box w3 b (cs.setIfInBounds o (.slice (some ⟨g1, 0, none⟩) M.length cap1)) ∧ OwnB w3 base (.slice (some ⟨g1, 0, none⟩) M.length cap1) (over c.data s d) ∧ Touch w w3 (b :: ob (Value.slice pa c.data.length capd) ++ ob vb)) := ⟨hx3, hd3, tb3⟩
      clear HS hcut HR hl hl2 hl3 hMl hM hE dpos hne hnc1 hcm1 hsl hsc hdel hcs2 hcs1 hsec hput hx3 hd3 tb3 f30 hb3 hij hout t23 hw3 hov hr hN' hC1 hC2 hR hQ1 hQ2 o31 hT2 hA2 hnb
      go_wp2_with (go_at_call 141; refine HC1.out.mono ?_; rintro e w4 ⟨rfl, qq, hw4⟩; have hh4 : w4.heap = w3.heap := (by rw [hw4]; rfl); obtain ⟨c41, f41, o41⟩ := HF.out w4 hh4; have HW4 : Hid (w4 = w3.drewN qq) := hw4; clear hw4)
      go_quiet (first | (go_at_call 94; exact Calls.quiet_of_same (HSE.out _)) | (go_at_call 141; exact Calls.quiet_of (HC2.out _ (HF.out _ hh4).2.2)))
      go_wp2_with fail
      refine (HD.out (w4.drewN nq) (HF.out (w4.drewN nq) hh4).2.2).mono ?_
      rintro e w6 ⟨v6, rfl, o6, ob6, t6⟩
      obtain ⟨p6, cap6, rfl⟩ := o6.slice
      have hh5 : ∀ n, (w4.drewN n).heap = w3.heap := fun n => hh4
      have bx6 : Box w6 b (cs.setIfInBounds o (.slice (some ⟨g1, 0, none⟩) M.length cap1)) := t6.box (by obtain ⟨ty, h⟩ := HX3.out.1; exact ⟨ty, by rw [hh5]; exact h⟩) hbb
      have c6 : w6.cell? ⟨b, o + 1, none⟩ = some vb := by rw [bx6.cell, hI2.d1]
      have f6 := bx6.frozen (o + 1)
      go_wp2
      go_end0
      have t67 : Touch w6 (w6.setCell ⟨b, o + 1, none⟩ (.slice p6 R.length cap6)) [b] := (Touch.refl _ _).setCell (.inl (by simp)) _ _
      have t36 : Touch w3 w6 (ob vb) := by
        have h4 : Touch w3 (w4.drewN nq) (ob vb) := by rw [HW4.out]; exact Touch.of_up ((up_drewN _ _).trans (up_drewN _ _)) _
        exact Touch.trans h4 t6 (fun k hk => .inl hk)
      obtain ⟨hx3, hd3, tb3⟩ := HX3.out
      have hg1v : g1 ∉ ob vb := fun hm => by
        have := nd2
        rw [List.cons_append, List.nodup_cons, List.nodup_append] at this
        exact this.2.2.2 g1 (by simp [ob, Value.ownBlock]) g1 hm rfl
      have eP := HP.out
      refine ⟨.slice (some ⟨g1, 0, none⟩) M.length cap1, .slice p6 R.length cap6, rfl, ⟨bx6.set (o + 1) _, ?_, ?_, ?_, ?_, ?_⟩, HT.out, ob6, ?_⟩
      · rw [Array.getElem?_setIfInBounds_ne (by omega)]; exact hI2.d0
      · have hlt : o + 1 < (cs.setIfInBounds o (.slice (some ⟨g1, 0, none⟩) M.length cap1)).size := (Array.getElem?_eq_some_iff.1 hI2.d1).1
        rw [Array.getElem?_setIfInBounds_self_of_lt hlt]
      · rw [eP]
        exact Touch.row (Touch.row hd3 t36 (fun k hk => by cases hk; exact hg1v)) t67 (fun k hk => by cases hk; simp; exact hg1b)
      · rw [eP]
        exact Touch.row o6 t67 (fun k hk => by simp; rintro rfl; exact hbb (ob6 ▸ mem_ob.2 hk))
      · rw [ob6]; exact nd2
      · exact Touch.trans (Touch.trans tb3 t36 (fun k hk => .inl (by simp [hk]))) t67 (fun k hk => .inl (by simp at hk; simp [hk]))

end Go.Proofs.YtkfjkfpodkbkaaaGreatDoor
