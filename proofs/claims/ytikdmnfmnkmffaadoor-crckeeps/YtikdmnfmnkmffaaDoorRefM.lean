/- crc: what the reference's apply, twice, Moved, Join answer. -/
import Derived.Test.YtikdmnfmnkmffaaDoorRefC
import Derived.Test.YtikdmnfmnkmffaaDoorCopyC
import Derived.Deep.WholeRow
import Derived.Deep.RegionWith
import Derived.Deep.QuietTactic
import Derived.BigQuiet
set_option linter.unusedVariables false
namespace Go.Proofs.YtikdmnfmnkmffaaDoor
open Go Go.RowKit

/-- An array of 32 numbers. -/
def Ar (c : Array Value) (m : Nat → W32) : Prop := c.size = 32 ∧ ∀ i, i < 32 → c[i]? = some (U (m i))
/-- What the map m makes of x, as far as its k lowest bits go. -/
def appK (m : Nat → W32) (x : W32) (k : Nat) : W32 := xs k (fun i => if x.getLsbD i then m i else 0#32)
def app (m : Nat → W32) (x : W32) : W32 := appK m x 32
theorem appK_succ (m : Nat → W32) (x : W32) (k : Nat) : appK m x (k + 1) = appK m x k ^^^ (if x.getLsbD k then m k else 0#32) := rfl
theorem app_lin {f : W32 → W32} (hf : Lin f) (x : W32) : app (fun i => f (one i)) x = f x := (hf.bits x).symm
theorem bit_odd (x : W32) (k : Nat) (hk : k < 32) : ((x.toNat : Int) / 2 ^ k).tmod 2 = if x.getLsbD k then 1 else 0 := by
  rw [Int.tmod_eq_emod_of_nonneg (Int.ediv_nonneg (by omega) (Int.le_of_lt (Int.pow_pos (by decide))))]
  have h : x.getLsbD k = decide (x.toNat / 2 ^ k % 2 = 1) := by rw [BitVec.getLsbD, Nat.testBit_eq_decide_div_mod_eq]
  have e : (x.toNat : Int) / 2 ^ k % 2 = ((x.toNat / 2 ^ k % 2 : Nat) : Int) := by simp
  rw [h, e]
  rcases Nat.mod_two_eq_zero_or_one (x.toNat / 2 ^ k) with q | q <;> rw [q] <;> simp

theorem Tryd.info32 : (Tryd.prog.info? 46).map (·.size) = some 32 := by kernel_rfl

set_option maxHeartbeats 400000 in
theorem apply_any (c : Array Value) (m : Nat → W32) (x : W32) (w : World) (hc : Ar c m) :
    Calls Tryd.prog 25 #[.agg c, U x] w fun e w' => e = .returned (U (app m x)) ∧ Up w w' := by
  generalize hR : app m x = R
  have HR : Hid (appK m x 32 = R) := hR
  clear hR
  go_enter Tryd.func25, Tryd.ntmps25
  obtain ⟨W, hW⟩ : ∃ W, w.alloc (.cells c 46) = W := ⟨_, rfl⟩
  have hu : Up w W := hW ▸ Up.alloc _ _
  have hcell : ∀ i, i < 32 → W.cell? ⟨w.heap.size, i, none⟩ = some (U (m i)) := fun i hi => by
    rw [← hW, cell_of_row _ _ _ _ _ _ (heap_alloc_new _ _)]
    exact hc.2 i hi
  have Hcell : Hid (∀ i, i < 32 → W.cell? ⟨w.heap.size, i, none⟩ = some (U (m i))) := hcell
  clear hcell hc
  go_wp2_with fail
  go_loopg [5, 6] 32 (fun g y i wr => W = wr ∧ ∃ k : Nat, k ≤ 32 ∧ g = 32 - k ∧ i = .int .i64 k ∧ y = U (appK m x k))
  case atStart => exact ⟨rfl, 0, by omega, rfl, rfl, rfl⟩
  case round =>
    obtain ⟨rfl, k, hk, rfl, rfl, rfl⟩ := hrel
    by_cases hk32 : k = 32
    · subst hk32
      rw [HR.out]
      go_wp2
      go_ret
      exact ⟨rfl, hu⟩
    · have hlt : k < 32 := by omega
      have hc := Hcell.out k hlt
      have hb := bit_odd x k hlt
      have hs := appK_succ m x k
      have hkI : (k : Int) < 32 := by omega
      have Hlt : Hid (k < 32) := hlt
      cases hbit : x.getLsbD k with
      | true =>
        rw [hbit] at hb hs
        simp only [if_true] at hb hs
        have hx := xor_u (appK m x k) (m k)
        rw [← hs] at hx
        clear hs hbit hk hk32 hlt
        generalize hZ : appK m x (k + 1) = Z at hx
        have HZ : Hid (appK m x (k + 1) = Z) := hZ
        clear hZ
        go_wp2
        go_roundg (32 - (k + 1))
        case measure => have := Hlt.out; omega
        case rel => exact ⟨rfl, k + 1, Hlt.out, rfl, by go_num, by rw [HZ.out]⟩
      | false =>
        rw [hbit] at hb hs
        simp only [Bool.false_eq_true, if_false, BitVec.xor_zero] at hb hs
        have HZ : Hid (appK m x (k + 1) = appK m x k) := hs
        clear hs hbit hk hk32 hlt
        go_wp2
        go_roundg (32 - (k + 1))
        case measure => have := Hlt.out; omega
        case rel => exact ⟨rfl, k + 1, Hlt.out, rfl, by go_num, by rw [HZ.out]⟩

theorem load32 (u : World) (g : Nat) (c : Array Value) (t : TypeId) (hc : c.size = 32) (hg : u.heap[g]? = some (.cells c t (0, 0))) : (Instr.loadAt 46 (.pointer (some ⟨g, 0, none⟩))).run Tryd.prog u = .ok (.agg c) u := by
  simp only [Instr.loadAt, Instr.sureAddr, Sem.run_bind, Sem.run_pure, Result.andThen]
  exact run_loadVar_row u g t 46 c (0, 0) _ hg Tryd.underlying46 rfl (by rw [Tryd.info32, hc])

theorem loadCells32 (u : World) (g : Nat) (c : Array Value) (t : TypeId) (hc : c.size = 32) (hg : u.heap[g]? = some (.cells c t (0, 0))) : (loadCellsFrom ⟨g, 0, none⟩ 0 32 #[]).run Tryd.prog u = .ok c u := by
  have := run_loadCells_list (P := Tryd.prog) u ⟨g, 0, none⟩ c.toList (fun j v hv => by
    have hadd : (⟨g, 0, none⟩ : Addr).add j = ⟨g, j, none⟩ := by unfold Addr.add; split <;> simp_all
    rw [hadd, cell_of_row _ _ j c t (0, 0) hg]
    simpa using hv)
  rw [← hc]
  simpa [loadCells] using this

/-- What twice's loop keeps: the box, the result's cells, and the rows that are done. -/
structure TwoM (w wr : World) (c : Array Value) (m : Nat → W32) (k : Nat) : Prop where
  box : wr.heap[w.heap.size]? = some (.cells c 46 (0, 0))
  res : ∃ c1, c1.size = 32 ∧ wr.heap[w.heap.size + 1]? = some (.cells c1 46 (0, 0))
  out : ∃ d, d.size = 32 ∧ wr.heap[w.heap.size + 1 + 1]? = some (.cells d 46 (0, 0)) ∧ ∀ j, j < k → d[j]? = some (U (app m (m j)))
  below : Up w wr

theorem TwoM.start (w : World) (c z z' : Array Value) (m : Nat → W32) (hz : z.size = 32) (hz' : z'.size = 32) :
    TwoM w (((w.alloc (.cells c 46)).alloc (.cells z 46)).alloc (.cells z' 46)) c m 0 := by
  have n1 : (w.alloc (.cells c 46)).heap.size = w.heap.size + 1 := by simp
  have n2 : ((w.alloc (.cells c 46)).alloc (.cells z 46)).heap.size = w.heap.size + 1 + 1 := by simp
  refine ⟨?_, ⟨z, hz, ?_⟩, ⟨z', hz', ?_, fun j hj => by omega⟩, ((Up.alloc _ _).trans (Up.alloc _ _)).trans (Up.alloc _ _)⟩
  · rw [heap_alloc_old _ _ (by omega), heap_alloc_old _ _ (by omega)]; exact heap_alloc_new _ _
  · rw [heap_alloc_old _ _ (by omega), ← n1]; exact heap_alloc_new _ _
  · rw [← n2]; exact heap_alloc_new _ _
theorem TwoM.up {w wr w' : World} {c : Array Value} {m : Nat → W32} {k : Nat} (h : TwoM w wr c m k) (hu : Up wr w') : TwoM w w' c m k := by
  have key : ∀ g o, wr.heap[g]? = some o → w'.heap[g]? = some o := fun g o hg => by
    have hlt : g < wr.heap.size := (Array.getElem?_eq_some_iff.1 hg).1
    rw [hu.block g hlt]; exact hg
  obtain ⟨h1, ⟨c1, h2, h3⟩, ⟨d, h4, h5, h6⟩, h7⟩ := h
  exact ⟨key _ _ h1, ⟨c1, h2, key _ _ h3⟩, ⟨d, h4, key _ _ h5, h6⟩, h7.trans hu⟩
/-- One more row is written. -/
theorem TwoM.next {w wr : World} {c : Array Value} {m : Nat → W32} {k : Nat} (h : TwoM w wr c m k) (hk : k < 32) : TwoM w (wr.setCell ⟨w.heap.size + 1 + 1, k, none⟩ (U (app m (m k)))) c m (k + 1) := by
  obtain ⟨h1, ⟨c1, h2, h3⟩, ⟨d, h4, h5, h6⟩, h7⟩ := h
  have hb := But.setCell wr (w.heap.size + 1 + 1) k (U (app m (m k)))
  have key : ∀ g o, g ≠ w.heap.size + 1 + 1 → wr.heap[g]? = some o → (wr.setCell ⟨w.heap.size + 1 + 1, k, none⟩ (U (app m (m k)))).heap[g]? = some o := fun g o hne hg => by
    have hlt : g < wr.heap.size := (Array.getElem?_eq_some_iff.1 hg).1
    rw [hb.block g hlt (by intro e; exact hne (Option.some.inj e))]; exact hg
  refine ⟨key _ _ (by omega) h1, ⟨c1, h2, key _ _ (by omega) h3⟩, ⟨d.setIfInBounds k (U (app m (m k))), by simpa using h4, heap_setCell2 _ _ _ _ _ _ h5, fun j hj => ?_⟩, Below.setCell h7 (show w.heap.size ≤ w.heap.size + 1 + 1 by omega) _⟩
  rw [Array.getElem?_setIfInBounds]
  by_cases e : k = j
  · subst e; rw [if_pos rfl, if_pos (by omega)]
  · rw [if_neg e]; exact h6 j (by omega)

set_option maxHeartbeats 800000 in
theorem twice_any (c : Array Value) (m : Nat → W32) (w : World) (hc : Ar c m) :
    Calls Tryd.prog 26 #[.agg c] w fun e w' => ∃ c', e = .returned (.agg c') ∧ Ar c' (fun i => app m (m i)) ∧ Up w w' := by
  go_enter Tryd.func26, Tryd.ntmps26
  go_wp2_with fail
  go_loopg [4] 32 (fun g i wr => ∃ k : Nat, k ≤ 32 ∧ g = 32 - k ∧ i = .int .i64 k ∧ Hid (TwoM w wr c m k))
  case atStart => exact ⟨0, by omega, rfl, rfl, TwoM.start w c _ _ m rfl rfl⟩
  case round =>
    obtain ⟨k, hk, rfl, rfl, hm⟩ := hrel
    by_cases hk32 : k = 32
    · subst hk32
      clear hk
      obtain ⟨d, h4, h5, h6⟩ := hm.out.out
      obtain ⟨c1, r1, r2⟩ := hm.out.res
      have hup := hm.out.below
      have Hd : Hid (d.size = 32 ∧ wr.heap[w.heap.size + 1 + 1]? = some (.cells d 46 (0, 0)) ∧ c1.size = 32 ∧ wr.heap[w.heap.size + 1]? = some (.cells c1 46 (0, 0))) := ⟨h4, h5, r1, r2⟩
      have hall : d.all (·.oneCell') = true := by
        rw [Array.all_eq_true]
        intro i hi
        have := h6 i (by omega)
        rw [Array.getElem?_eq_getElem hi] at this
        rw [Option.some.inj this]; rfl
      have Hall : Hid (d.all (·.oneCell') = true) := hall
      clear h4 h5 r1 r2 hm hall
      go_wp2_with (first
        | (refine wpList_load_row rfl 46 (.tmp 3) rfl _ rfl _ d (0, 0) _ Hd.out.2.1 Tryd.underlying46 rfl (by rw [Tryd.info32, Hd.out.1]) ?_)
        | (refine wpList_store_row rfl 46 (.tmp 2) (.tmp 16) rfl _ d rfl rfl _ c1 Hd.out.2.2.2 (by rw [Tryd.info32, Hd.out.1]) (by rw [Hd.out.1, Hd.out.2.2.1]) Hall.out ?_))
      refine bodyPost_ret (results_cell_row (fn := Tryd.f26) rfl _ _ (w.heap.size + 1) 46 d (0, 0) _ rfl (setRow_heap _ _ _ _ _ _ Hd.out.2.2.2) Tryd.underlying46 rfl (by rw [Tryd.info32, Hd.out.1])) rfl ?_
      exact ⟨d, rfl, ⟨Hd.out.1, h6⟩, Below.trans hup ⟨rfl, rfl, rfl, by simp, fun k hk => setRow_other _ _ _ _ (by omega)⟩⟩
    · have hlt : k < 32 := by omega
      have Hlt : Hid (k < 32) := hlt
      have hkI : (k : Int) < 32 := by omega
      have hld : (Instr.loadAt 46 (.pointer (some ⟨w.heap.size, 0, none⟩))).run Tryd.prog wr.drew = .ok (.agg c) wr.drew := load32 _ _ _ _ hc.1 hm.out.box
      have hcl : wr.drew.cell? ⟨w.heap.size, k, none⟩ = some (U (m k)) := by
        rw [cell_of_row _ _ _ _ _ _ (show wr.drew.heap[w.heap.size]? = _ from hm.out.box)]
        exact hc.2 k hlt
      have hap := fun u => apply_any c m (m k) u hc
      have Hap : Hid (∀ u, Calls Tryd.prog 25 #[.agg c, U (m k)] u fun e w' => e = .returned (U (app m (m k))) ∧ Up u w') := hap
      clear hk hk32 hap
      have hfin : Hid (∀ u, Up wr u → (∃ v, u.cell? ⟨w.heap.size + 1 + 1, k, none⟩ = some v) ∧ u.frozen? ⟨w.heap.size + 1 + 1, k, none⟩ = false ∧ TwoM w (u.setCell ⟨w.heap.size + 1 + 1, k, none⟩ (U (app m (m k)))) c m (k + 1)) := by
        intro u hu
        have h := hm.out.up hu
        obtain ⟨d, h4, h5, _⟩ := h.out
        refine ⟨⟨d[k]'(by omega), ?_⟩, ?_, h.next Hlt.out⟩
        · rw [cell_of_row _ _ _ _ _ _ h5]; simp
        · simp [World.frozen?, h5]
      have hbox : wr.drew.heap[w.heap.size]? = some (.cells c 46 (0, 0)) := hm.out.box
      have Hbox : Hid (wr.drew.heap[w.heap.size]? = some (.cells c 46 (0, 0))) := hbox
      clear hbox
      clear hm hld
      go_wp2_with fail
      refine wp_region_any (by kernel_rfl) ?_
      try (change wpAny _ _ _ _ _ _ _ (World.drew _))
      refine wpAny_take (i := 0) (v := .int .i64 (k : Int)) rfl (by kernel_rfl) (by kernel_rfl) (by kernel_rfl) (fun _ _ _ h => h) (Or.inl ⟨by rfl, by intro w; go_simp⟩) ?_
      refine wpAny_take (i := 2) (v := .int .i64 (k : Int)) rfl (by kernel_rfl) (by kernel_rfl) (by kernel_rfl) (fun _ _ _ h => h) (Or.inl ⟨by rfl, by intro w; go_simp⟩) ?_
      refine wpAny_take (i := 3) (v := .pointer (some ⟨w.heap.size, k, none⟩)) rfl (by kernel_rfl) (by kernel_rfl) (by kernel_rfl) (fun _ _ _ h => h) (Or.inl ⟨by rfl, by intro w; go_simp⟩) ?_
      refine wpAny_ready (rs := [1, 4]) (by kernel_rfl) (by simp) ?_
      refine AllReady.cons rfl (fun K hK => ?_) ?_
      refine wp_load_row 46 (.tmp 1) rfl _ rfl _ c (0, 0) _ Hbox.out Tryd.underlying46 rfl (by rw [Tryd.info32, hc.1]) ?_
      refine hK _ _ ?_
      clear hK K
      refine wpAny_ready (rs := [4]) (by kernel_rfl) (by simp) ?_
      refine AllReady.cons rfl (fun K hK => ?_) AllReady.nil
      go_simp
      refine hK _ _ ?_
      clear hK K
      rotate_left
      refine AllReady.cons rfl (fun K hK => ?_) AllReady.nil
      go_simp
      refine hK _ _ ?_
      clear hK K
      refine wpAny_ready (rs := [1]) (by kernel_rfl) (by simp) ?_
      refine AllReady.cons rfl (fun K hK => ?_) AllReady.nil
      refine wp_load_row 46 (.tmp 1) rfl _ rfl _ c (0, 0) _ Hbox.out Tryd.underlying46 rfl (by rw [Tryd.info32, hc.1]) ?_
      refine hK _ _ ?_
      clear hK K
      all_goals
        refine wpAny_ready (rs := [5]) (by kernel_rfl) (by simp) ?_
        refine AllReady.cons rfl (fun K hK => ?_) AllReady.nil
        go_simp
        refine (Hap.out _).mono ?_
        rintro e w6 ⟨rfl, hu6⟩
        refine hK _ _ ?_
        clear hK K
        have hq6 := hfin.out w6 ((Up.drew wr).trans hu6)
        obtain ⟨⟨v6, hv6⟩, hf6, ht6⟩ := hq6
        have Ht6 : Hid (TwoM w (w6.setCell ⟨w.heap.size + 1 + 1, k, none⟩ (U (app m (m k)))) c m (k + 1)) := ht6
        clear ht6
        refine wpAny_take (i := 6) (v := .pointer (some ⟨w.heap.size + 1 + 1, k, none⟩)) rfl (by kernel_rfl) (by kernel_rfl) (by kernel_rfl) (fun _ _ _ h => h) (Or.inl ⟨by rfl, by intro w; go_simp⟩) ?_
        refine wpAny_ready (rs := [7]) (by kernel_rfl) (by simp) ?_
        refine AllReady.cons rfl (fun K hK => ?_) AllReady.nil
        go_simp
        refine hK _ _ ?_
        clear hK K
        refine wpAny_done (by kernel_rfl) ?_ _
        go_wp2
        go_roundg (32 - (k + 1))
        case measure => have := Hlt.out; omega
        case rel => exact ⟨k + 1, Hlt.out, rfl, by go_num, Ht6⟩
end Go.Proofs.YtikdmnfmnkmffaaDoor
