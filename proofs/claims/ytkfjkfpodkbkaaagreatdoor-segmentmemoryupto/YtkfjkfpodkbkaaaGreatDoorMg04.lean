/- Merged: DkSl, DkIns. -/
import Derived.Test.YtkfjkfpodkbkaaaGreatDoorMg03
import Derived.Test.YtkfjkfpodkbkaaaGreatDoorMg01
import Derived.Deep.DeepAppendWide
import Derived.Lib.SliceRun
import Derived.Lib.OwnBridge
set_option linter.unusedVariables false
namespace Go.Proofs.YtkfjkfpodkbkaaaGreatDoor
open Go Go.RowKit

theorem Tryz.infoB : (Tryz.prog.info? 5).map (fun i => (i.zero, i.size, i.bytes)) = some (some (.int .u8 0), 1, 1) := by kernel_rfl
theorem Tryz.infoN : (Tryz.prog.info? 3).map (fun i => (i.zero, i.size, i.bytes)) = some (some (.int .i64 0), 1, 8) := by kernel_rfl

/-- How long a content may become. -/
abbrev CB : Nat := 200000000000000

theorem sectors_any (n : Nat) (hn : n ≤ 4611686018427387904) (w : World) : Calls Tryz.prog 94 #[.int .i64 (n : Int)] w fun e w' => e = .returned (.int .i64 (sec n : Nat)) ∧ w' = w := by
  have h0 : (0 : Int) ≤ (n : Int) := by omega
  have h1 : (n : Int) ≤ 4611686018427387904 := by omega
  have hs : Hid (((n : Int) + 512 - 1) / 512 = ((sec n : Nat) : Int)) := by show _ = _; unfold sec; omega
  go_enter Tryz.func94, Tryz.ntmps94
  go_wp2
  go_ret
  refine ⟨?_, rfl⟩
  show Ending.returned (Value.int .i64 (((n : Int) + 512 - 1) / 512)) = _
  rw [hs.out]

/-- Numbers at cells, and a slice that reads as numbers. -/
def AtN (w : World) (b o : Nat) (zs : List Nat) : Prop := ∀ i (h : i < zs.length), w.cell? ⟨b, o + i, none⟩ = some (.int .i64 ((zs[i] : Nat) : Int))
def SlN (base : Nat) (w : World) (v : Value) (zs : List Nat) : Prop :=
  ∃ ao cap, v = .slice ao zs.length cap ∧ zs.length ≤ cap ∧ (ao = none → cap = 0) ∧ (zs ≠ [] → ∃ b o, ao = some ⟨b, o, none⟩ ∧ base ≤ b ∧ AtN w b o zs)

theorem AtN.add {w : World} {b o : Nat} {zs : List Nat} (h : AtN w b o zs) : ∀ j u, (Nv zs)[j]? = some u → w.cell? ((⟨b, o, none⟩ : Addr).add j) = some u := by
  intro j u hu
  rw [Addr.add_lit]
  obtain ⟨hj, e⟩ := List.getElem?_eq_some_iff.1 hu
  simp at hj
  rw [h j hj]
  simpa using congrArg some e
theorem AtN.up {w w' : World} {b o : Nat} {zs : List Nat} (h : AtN w b o zs) (u : Up w w') : AtN w' b o zs := fun i hi => by
  rw [u.cell (World.block_lt_of_cell? w _ (h i hi))]; exact h i hi
theorem SlN.up {base : Nat} {w w' : World} {v : Value} {zs : List Nat} (h : SlN base w v zs) (u : Up w w') : SlN base w' v zs := by
  obtain ⟨ao, cap, rfl, hc, hn, hx⟩ := h
  refine ⟨ao, cap, rfl, hc, hn, fun hb => ?_⟩
  obtain ⟨b, o, rfl, hbb, ha⟩ := hx hb
  exact ⟨b, o, rfl, hbb, ha.up u⟩
theorem SlN.nil (base : Nat) (w : World) : SlN base w (.slice none 0 0) [] := ⟨none, 0, rfl, Nat.le_refl _, fun _ => rfl, fun h => absurd rfl h⟩

theorem OwnN.at {w : World} {base g cap : Nat} {zs : List Nat} (h : OwnN w base (.slice (some ⟨g, 0, none⟩) zs.length cap) zs) : AtN w g 0 zs := by
  obtain ⟨hl, ⟨e, hn⟩ | ⟨g', cap', cur, e, hb, hg, hnc, hcm, hcs, ht⟩⟩ := h
  · simp at e
  · simp only [Value.slice.injEq, Option.some.injEq, Addr.mk.injEq] at e
    obtain ⟨⟨rfl, _⟩, _, rfl⟩ := e
    intro i hi
    rw [cell_of_row w g _ cur _ (0, 0) hg]
    have : (Nv zs)[i]? = some (.int .i64 ((zs[i] : Nat) : Int)) := by simp [hi]
    rw [← ht, List.getElem?_take] at this
    split at this
    · simpa using this
    · cases this
theorem OwnN.sl {w : World} {base : Nat} {v : Value} {zs : List Nat} (h : OwnN w base v zs) : SlN base w v zs := by
  have h' := h
  obtain ⟨hl, ⟨rfl, hn⟩ | ⟨g, cap, cur, rfl, hb, hg, hnc, hcm, hcs, ht⟩⟩ := h
  · obtain rfl : zs = [] := List.eq_nil_of_length_eq_zero hn
    exact SlN.nil base w
  · exact ⟨some ⟨g, 0, none⟩, cap, rfl, hnc, (by intro e; cases e), fun hbs => ⟨g, 0, rfl, hb, OwnN.at h'⟩⟩
theorem OwnN.nil (w : World) (base : Nat) : OwnN w base (.slice none 0 0) [] := World.ownsRow_nil w base _ 1

/-- append(s, x...) for the walk: bytes. -/
theorem wpList_appB {ops : Array Oper} {rest : List Oper} {o : Oper} {a : Act} {Q : Exit → Act → World → Prop} (w : World) (hgd : o.guard = none) (s x : Operand)
    (ho : o.op = .call { callee := .builtin .append, args := #[s, x], argTypes := #[60, 60] }) (base base' : Nat) (v : Value) (bs cs : List UInt8) (hs : a.eval s = v) (ad : Addr) (c : Nat)
    (hx : a.eval x = .slice (some ad) cs.length c) (how : OwnB w base v bs) (hsx : Sl base' w (.slice (some ad) cs.length c) cs) (hbase : base ≤ w.heap.size) (hl : bs.length + cs.length ≤ CB)
    (hK : ∀ v' w', OwnB w' base v' (bs ++ cs) → w.grownBy w' v.ownBlock → wpList Tryz.prog ops Q rest (a.put o.dst v') w') :
    wpList Tryz.prog ops Q (o :: rest) a w := by
  obtain ⟨i0, hi, hz0, hz1, hz2⟩ := info_parts Tryz.infoB
  refine wpList_append_own_wide _ hgd s x 60 ho base 5 i0 (.int .u8 0) 1 1 Tryz.underlying60 hi hz0 hz1 hz2 rfl (by decide) v bs.length (Bv bs) hs how ad cs.length c (Bv cs) hx (by simp) ?_ (Bv_one cs) ?_ ?_ hbase ?_
  · intro j u hj
    obtain ⟨ao, cap, hv, _, _, hxx⟩ := hsx
    obtain ⟨b, o, rfl, _, ha⟩ := hxx (by rintro rfl; simp at hj)
    simp only [Value.slice.injEq] at hv
    obtain rfl := Option.some.inj hv.1
    exact ha.add j u hj
  · unfold maxLen; unfold CB at hl; omega
  · unfold CB at hl; omega
  · intro v' w' h1 h2 _
    exact hK v' w' (by simpa [OwnB, Own] using h1) h2
/-- .. numbers. -/
theorem wpList_appN {ops : Array Oper} {rest : List Oper} {o : Oper} {a : Act} {Q : Exit → Act → World → Prop} (w : World) (hgd : o.guard = none) (s x : Operand)
    (ho : o.op = .call { callee := .builtin .append, args := #[s, x], argTypes := #[30, 30] }) (base base' : Nat) (v : Value) (bs cs : List Nat) (hs : a.eval s = v) (ad : Addr) (c : Nat)
    (hx : a.eval x = .slice (some ad) cs.length c) (how : OwnN w base v bs) (hsx : SlN base' w (.slice (some ad) cs.length c) cs) (hbase : base ≤ w.heap.size) (hl : bs.length + cs.length ≤ 20000000000000)
    (hK : ∀ v' w', OwnN w' base v' (bs ++ cs) → w.grownBy w' v.ownBlock → wpList Tryz.prog ops Q rest (a.put o.dst v') w') :
    wpList Tryz.prog ops Q (o :: rest) a w := by
  obtain ⟨i0, hi, hz0, hz1, hz2⟩ := info_parts Tryz.infoN
  refine wpList_append_own_wide _ hgd s x 30 ho base 3 i0 (.int .i64 0) 1 8 Tryz.underlying30 hi hz0 hz1 hz2 rfl (by decide) v bs.length (Nv bs) hs how ad cs.length c (Nv cs) hx (by simp) ?_ (Nv_one cs) ?_ ?_ hbase ?_
  · intro j u hj
    obtain ⟨ao, cap, hv, _, _, hxx⟩ := hsx
    obtain ⟨b, o, rfl, _, ha⟩ := hxx (by rintro rfl; simp at hj)
    simp only [Value.slice.injEq] at hv
    obtain rfl := Option.some.inj hv.1
    exact ha.add j u hj
  · unfold maxLen; omega
  · omega
  · intro v' w' h1 h2 _
    exact hK v' w' (by simpa [OwnN] using h1) h2

set_option maxHeartbeats 400000 in
/-- slices.Clone of bytes: new memory; nil of nil. -/
theorem cloneB_any (base : Nat) (v : Value) (bs : List UInt8) (w : World) (hs : Sl base w v bs) (hl : bs.length ≤ CB) :
    Calls Tryz.prog 110 #[v] w fun e w' => ∃ v', e = .returned v' ∧ OwnB w' w.heap.size v' bs ∧ Up w w' := by
  have hs0 := hs
  obtain ⟨ao, cap, rfl, hc, hn, hx⟩ := hs
  cases ao with
  | none =>
    have h0 : bs = [] := List.eq_nil_of_length_eq_zero (by have := hn rfl; omega)
    subst h0
    have hq : ∀ u, (binOp .eql 60 (.slice none 0 cap) (.slice none 0 0)).run Tryz.prog u = .ok (.bool true) u := fun u => Lib.run_eql_slice_nil (P := Tryz.prog) u 60 5 none 0 cap 0 0 Tryz.underlying60
    clear hx hs0 hn hc
    go_enter Tryz.func110, Tryz.ntmps110
    go_wp2
    go_ret
    exact ⟨_, rfl, Own.nil _ _ _, Up.refl _⟩
  | some ad =>
    have hq : ∀ u, (binOp .eql 60 (.slice (some ad) bs.length cap) (.slice none 0 0)).run Tryz.prog u = .ok (.bool false) u := fun u => Lib.run_eql_slice_nil (P := Tryz.prog) u 60 5 (some ad) bs.length cap 0 0 Tryz.underlying60
    clear hx hn
    go_enter Tryz.func110, Tryz.ntmps110
    go_wp2_with (at_builtin; refine wpList_appB _ rfl (.tmp 5) (.tmp 6) rfl w.heap.size base _ [] bs rfl ad cap rfl ?ho (hs0.up ?hu) ?hb ?hl ?_)
    case ho => exact ⟨rfl, .inr ⟨w.heap.size, 0, #[], rfl, Nat.le_refl _, heap_alloc_new _ _, Nat.le_refl _, by unfold maxLen; omega, rfl, rfl⟩⟩
    case hu => exact Up.alloc _ _
    case hb => simp
    case hl => simp; omega
    intro v' w' ho hb
    go_wp2
    go_ret
    exact ⟨_, rfl, ho, Touch.up (S := [w.heap.size]) (((Touch.refl w _).alloc _).trans (Touch.of_grown hb (fun k hk => by simp [Value.ownBlock] at hk; simp [hk])) (fun k hk => .inl hk)) (fun k hk => by simp at hk; omega)⟩

set_option maxHeartbeats 400000 in
/-- .. of numbers. -/
theorem cloneN_any (base : Nat) (v : Value) (bs : List Nat) (w : World) (hs : SlN base w v bs) (hl : bs.length ≤ 20000000000000) :
    Calls Tryz.prog 111 #[v] w fun e w' => ∃ v', e = .returned v' ∧ OwnN w' w.heap.size v' bs ∧ Up w w' := by
  have hs0 := hs
  obtain ⟨ao, cap, rfl, hc, hn, hx⟩ := hs
  cases ao with
  | none =>
    have h0 : bs = [] := List.eq_nil_of_length_eq_zero (by have := hn rfl; omega)
    subst h0
    have hq : ∀ u, (binOp .eql 30 (.slice none 0 cap) (.slice none 0 0)).run Tryz.prog u = .ok (.bool true) u := fun u => Lib.run_eql_slice_nil (P := Tryz.prog) u 30 3 none 0 cap 0 0 Tryz.underlying30
    clear hx hs0 hn hc
    go_enter Tryz.func111, Tryz.ntmps111
    go_wp2
    go_ret
    exact ⟨_, rfl, OwnN.nil _ _, Up.refl _⟩
  | some ad =>
    have hq : ∀ u, (binOp .eql 30 (.slice (some ad) bs.length cap) (.slice none 0 0)).run Tryz.prog u = .ok (.bool false) u := fun u => Lib.run_eql_slice_nil (P := Tryz.prog) u 30 3 (some ad) bs.length cap 0 0 Tryz.underlying30
    clear hx hn
    go_enter Tryz.func111, Tryz.ntmps111
    go_wp2_with (at_builtin; refine wpList_appN _ rfl (.tmp 5) (.tmp 6) rfl w.heap.size base _ [] bs rfl ad cap rfl ?ho (hs0.up ?hu) ?hb ?hl ?_)
    case ho => exact ⟨rfl, .inr ⟨w.heap.size, 0, #[], rfl, Nat.le_refl _, heap_alloc_new _ _, Nat.le_refl _, by unfold maxLen; omega, rfl, rfl⟩⟩
    case hu => exact Up.alloc _ _
    case hb => simp
    case hl => simp; omega
    intro v' w' ho hb
    go_wp2
    go_ret
    exact ⟨_, rfl, ho, Touch.up (S := [w.heap.size]) (((Touch.refl w _).alloc _).trans (Touch.of_grown hb (fun k hk => by simp [Value.ownBlock] at hk; simp [hk])) (fun k hk => .inl hk)) (fun k hk => by simp at hk; omega)⟩

/-! BinarySearch and Delete over a rising row of numbers of one's own. -/
theorem cntI (zs : List Nat) (x : Nat) : (zs.map fun (n : Nat) => (n : Int)).countP (fun z => decide (z < (x : Int))) = cnt zs x := by
  unfold cnt
  rw [List.countP_map]
  congr 1
  funext n
  simp [Function.comp]

set_option maxHeartbeats 400000 in
theorem search_none (x : Int) (c : Nat) (w : World) : Calls Tryz.prog 141 #[.slice none 0 c, .int .i64 x] w fun e w' => e = .returned (.tuple #[.int .i64 0, .bool false]) ∧ w' = w := by
  go_enter Tryz.func141, Tryz.ntmps141
  go_wp2
  refine wp_loop_rounds 1 ?_
  rw [rounds_succ]
  go_wp2
  go_ret2
  exact ⟨rfl, rfl⟩

theorem search_any (base : Nat) (v : Value) (zs : List Nat) (x : Nat) (w : World) (h : OwnN w base v zs) (hr : zs.Pairwise (· < ·)) (hbd : zs.length ≤ 20000000000000) :
    Calls Tryz.prog 141 #[v, .int .i64 (x : Int)] w fun e w' => ∃ ok, e = .returned (.tuple #[.int .i64 (cnt zs x : Nat), .bool ok]) ∧ ∃ q, w' = w.drewN q := by
  have h' := h
  obtain ⟨hl, ⟨rfl, hn⟩ | ⟨g, cap, cur, rfl, hb, hg, hnc, hcm, hcs, ht⟩⟩ := h
  · obtain rfl : zs = [] := List.eq_nil_of_length_eq_zero hn
    refine (search_none _ 0 w).mono ?_
    rintro e w' ⟨rfl, rfl⟩
    exact ⟨false, rfl, 0, rfl⟩
  · have ha := OwnN.at h'
    have hlen : (zs.map fun (n : Nat) => (n : Int)).length = zs.length := List.length_map _
    have hc := Tryz.slices_BinarySearch_int g 0 zs.length cap (zs.map fun (n : Nat) => (n : Int)) x w (by rw [hlen]; exact Nat.le_refl _) (by omega)
      (fun j hj => by rw [hlen] at hj; rw [ha j hj]; simp [List.getD_eq_getElem?_getD, hj])
      (by
        rw [List.take_of_length_le (by rw [hlen]; exact Nat.le_refl _)]
        exact List.pairwise_map.2 (hr.imp fun hab => by omega))
    refine hc.mono ?_
    rintro e w' ⟨rfl, q, rfl⟩
    rw [List.take_of_length_le (by rw [hlen]; exact Nat.le_refl _), cntI]
    exact ⟨_, rfl, q, rfl⟩

end Go.Proofs.YtkfjkfpodkbkaaaGreatDoor

set_option linter.unusedVariables false
namespace Go.Proofs.YtkfjkfpodkbkaaaGreatDoor
open Go Go.RowKit

/-- Cells written one behind the other into a row. -/
theorem heap_setCells (g t : Nat) : ∀ (vs : List Value) (o : Nat) (w : World) (cur : Array Value), w.heap[g]? = some (.cells cur t (0, 0)) → o + vs.length ≤ cur.size →
    (w.setCells g o vs).heap[g]? = some (.cells (cur.toList.take o ++ vs ++ cur.toList.drop (o + vs.length)).toArray t (0, 0))
  | [], o, w, cur, h, _ => by
    show w.heap[g]? = _
    rw [h]
    simp
  | v :: r, o, w, cur, h, hl => by
    simp only [List.length_cons] at hl
    have h1 := heap_setCell_same w g o cur t v h
    have h2 := heap_setCells g t r (o + 1) (w.setCell ⟨g, o, none⟩ v) (cur.setIfInBounds o v) h1 (by simp; omega)
    show ((w.setCell ⟨g, o, none⟩ v).setCells g (o + 1) r).heap[g]? = _
    rw [h2]
    congr 3
    refine List.ext_getElem? fun j => ?_
    simp only [List.getElem?_append, List.length_append, List.length_take, List.getElem?_take, List.getElem?_drop, Array.getElem?_toList, Array.getElem?_setIfInBounds, Array.length_toList, Array.size_setIfInBounds, List.length_cons]
    have e1 : min (o + 1) cur.size = o + 1 := by omega
    have e2 : min o cur.size = o := by omega
    rw [e1, e2]
    by_cases c1 : j < o
    · rw [if_pos (by omega), if_pos (by omega), if_pos (by omega), if_neg (by omega), if_pos (by omega), if_pos c1, if_pos c1]
    · by_cases c2 : j = o
      · subst c2
        rw [if_pos (by omega), if_pos (by omega), if_pos (by omega), if_pos rfl, if_pos (by omega), if_pos (by omega), if_neg (by omega), Nat.sub_self]
        rfl
      · by_cases c3 : j < o + (r.length + 1)
        · rw [if_pos (by omega), if_neg (by omega), if_pos (by omega), if_neg (by omega), show j - o = (j - (o + 1)) + 1 by omega, List.getElem?_cons_succ]
        · rw [if_neg (by omega), if_neg (by omega), if_neg (by omega)]
          congr 1
          omega

theorem touch_setCells {g : Nat} {S : List Nat} : ∀ (vs : List Value) (o : Nat) {w w' : World}, Touch w w' S → (g ∈ S ∨ w.heap.size ≤ g) → Touch w (w'.setCells g o vs) S
  | [], _, _, _, h, _ => h
  | v :: r, o, w, w', h, hg => touch_setCells r (o + 1) (h.setCell hg o v) hg

theorem touch_putRow {α : Type} [Inhabited α] {enc : α → Value} {w : World} {g q : Nat} {d : Array α} {S : List Nat} (hg : g ∈ S ∨ w.heap.size ≤ g) : Touch w (Sort.putRow enc (Sort.ahead w q) g 0 d) S :=
  ⟨rfl, rfl, rfl, by simp [Sort.putRow, Sort.mapBlock, Sort.ahead], fun k hk hn => by
    simp [Sort.putRow, Sort.mapBlock, Sort.ahead, Array.getElem?_modify, show g ≠ k by rintro rfl; rcases hg with x | x; exact hn x; omega]⟩

theorem Nv_take (zs : List Nat) (n : Nat) : (Nv zs).take n = Nv (zs.take n) := List.map_take.symm
theorem Nv_map (zs : List Nat) : Nv zs = (zs.map fun (n : Nat) => (n : Int)).map (Value.int .i64) := by simp [Nv, List.map_map, Function.comp]

/-- An own row of numbers that isn't nil. -/
theorem OwnN.parts {w : World} {base : Nat} {v : Value} {zs : List Nat} (h : OwnN w base v zs) : (v = .slice none 0 0 ∧ zs = []) ∨
    ∃ g cap cur, v = .slice (some ⟨g, 0, none⟩) zs.length cap ∧ base ≤ g ∧ g < w.heap.size ∧ w.heap[g]? = some (.cells cur 3 (0, 0)) ∧ zs.length ≤ cap ∧ cap ≤ maxLen ∧ cur.size = cap ∧ cur.toList.take zs.length = Nv zs := by
  obtain ⟨hl, ⟨rfl, hn⟩ | ⟨g, cap, cur, rfl, hb, hg, hnc, hcm, hcs, ht⟩⟩ := h
  · exact .inl ⟨rfl, List.eq_nil_of_length_eq_zero hn⟩
  · exact .inr ⟨g, cap, cur, rfl, hb, (Array.getElem?_eq_some_iff.1 hg).1, hg, hnc, hcm, by simpa using hcs, by simpa using ht⟩

theorem OwnN.mk {w : World} {base g cap : Nat} {cur : Array Value} {zs : List Nat} (hb : base ≤ g) (hg : w.heap[g]? = some (.cells cur 3 (0, 0))) (hn : zs.length ≤ cap) (hm : cap ≤ maxLen) (hs : cur.size = cap) (ht : cur.toList.take zs.length = Nv zs) :
    OwnN w base (.slice (some ⟨g, 0, none⟩) zs.length cap) zs :=
  ⟨by simp [Nv], .inr ⟨g, cap, cur, rfl, hb, hg, hn, hm, by simpa using hs, by simpa using ht⟩⟩

set_option maxHeartbeats 400000 in
theorem delete_none (c : Nat) (w : World) : Calls Tryz.prog 142 #[.slice none 0 c, .int .i64 0, .int .i64 0] w fun e w' => e = .returned (.slice none 0 c) ∧ w' = w := by
  go_enter Tryz.func142, Tryz.ntmps142
  go_wp2
  go_ret
  exact ⟨rfl, rfl⟩

/-- slices.Delete. -/
theorem delete_any (base : Nat) (v : Value) (zs : List Nat) (i j : Nat) (w : World) (h : OwnN w base v zs) (hij : i ≤ j) (hj : j ≤ zs.length) :
    Calls Tryz.prog 142 #[v, .int .i64 (i : Int), .int .i64 (j : Int)] w fun e w' => ∃ v', e = .returned v' ∧ OwnN w' base v' (zs.take i ++ zs.drop j) ∧ ob v' = ob v ∧ Touch w w' (ob v) := by
  rcases h.parts with ⟨rfl, rfl⟩ | ⟨g, cap, cur, rfl, hb, hlt, hg, hnc, hcm, hcs, ht⟩
  · obtain rfl : j = 0 := by simpa using hj
    obtain rfl : i = 0 := by omega
    refine (delete_none 0 w).mono ?_
    rintro e w' ⟨rfl, rfl⟩
    exact ⟨_, rfl, OwnN.nil _ _, rfl, Touch.refl _ _⟩
  · have hlen : (zs.map fun (n : Nat) => (n : Int)).length = zs.length := List.length_map _
    have hrow : w.ownsRow base 3 1 (.slice (some ⟨g, 0, none⟩) zs.length cap) zs.length ((zs.map fun (n : Nat) => (n : Int)).map (Value.int .i64)) := by
      rw [← Nv_map]; exact h
    obtain ⟨g', cap', e, _, _, _, _, _, hH⟩ := Lib.holds_of_ownsRow hrow (by intro e; cases e)
    simp only [Value.slice.injEq, Option.some.injEq, Addr.mk.injEq] at e
    obtain ⟨⟨rfl, _⟩, _, rfl⟩ := e
    have hc := Tryz.slices_Delete_int g 0 cap i j (zs.map fun (n : Nat) => (n : Int)) w hH (by rw [hlen]; exact hnc) (by unfold maxLen at hcm; omega) hij (by rw [hlen]; exact hj)
    rw [hlen] at hc
    refine hc.mono ?_
    rintro e w' ⟨rfl, q, rfl⟩
    have hsub : ((zs.length : Int) - ((j : Int) - (i : Int))) = ((zs.length - (j - i) : Nat) : Int) := by omega
    refine ⟨_, rfl, ?_, rfl, ?_⟩
    · have hp := Lib.ownsRow_putRow (q := q) (k := zs.length - (j - i)) (ys := (zs.map fun (n : Nat) => (n : Int)).take i ++ (zs.map fun (n : Nat) => (n : Int)).drop j ++ List.replicate (j - i) 0) hrow (by simp; omega) (by omega)
      have e1 : ((zs.map fun (n : Nat) => (n : Int)).take i ++ (zs.map fun (n : Nat) => (n : Int)).drop j ++ List.replicate (j - i) (0 : Int)).take (zs.length - (j - i)) = (zs.take i ++ zs.drop j).map fun (n : Nat) => (n : Int) := by
        rw [List.take_append_of_le_length (by simp; omega), List.take_of_length_le (by simp; omega), List.map_append, List.map_take, List.map_drop]
      rw [e1, ← Nv_map] at hp
      have e2 : (zs.take i ++ zs.drop j).length = zs.length - (j - i) := by simp; omega
      show World.ownsRow _ base _ 1 _ (zs.take i ++ zs.drop j).length _
      rw [e2]
      exact hp
    · exact touch_putRow (.inl (by simp [ob, Value.ownBlock]))

end Go.Proofs.YtkfjkfpodkbkaaaGreatDoor
