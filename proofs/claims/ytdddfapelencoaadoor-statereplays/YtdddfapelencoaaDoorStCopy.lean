/- state: the library's Clone over entries; copyOf. Own work. -/
import Derived.Test.YtdddfapelencoaaDoorStFind
import Derived.Test.YtdddfapelencoaaDoorHeldTo
import Derived.Deep.DeepAppendWide
import Derived.Lib.SliceRun
set_option linter.unusedVariables false
set_option linter.unusedSimpArgs false
namespace Go.Proofs.YtdddfapelencoaaDoor
open Go Go.RowKit

theorem Tryd.infoEnt : (Tryd.prog.info? 58).map (fun i => (i.zero, i.size, i.bytes)) = some (some (.agg #[.string ⟨#[]⟩, .int .i64 0, Z, Z, Z, Z, Z, Z, Z]), 9, 80) := by kernel_rfl

/-- How many entries a row may have. -/
abbrev EB0 : Nat := 1000000000000
theorem SlE.add {w : World} {ad : Addr} {c : Nat} {xs : List Ent} (h : SlE w (.slice (some ad) xs.length c) xs) : ∀ j u, (Ecs xs)[j]? = some u → w.cell? (ad.add j) = some u := fun j u hj => by
  obtain ⟨ao, cap, hv, _, _, hx⟩ := h
  have hne : xs ≠ [] := by rintro rfl; simp [Ecs_nil] at hj
  obtain ⟨b, o, rfl, ha⟩ := hx hne
  simp only [Value.slice.injEq] at hv
  obtain rfl := Option.some.inj hv.1
  rw [Addr.add_lit]
  exact ha j u hj
theorem wpList_appE {ops : Array Oper} {rest : List Oper} {o : Oper} {a : Act} {Q : Exit → Act → World → Prop} (w : World) (hgd : o.guard = none) (s x : Operand)
    (ho : o.op = .call { callee := .builtin .append, args := #[s, x], argTypes := #[25, 25] }) (base : Nat) (v : Value) (xs ys : List Ent) (hs : a.eval s = v) (ad : Addr) (c : Nat)
    (hx : a.eval x = .slice (some ad) ys.length c) (how : OwnE w base v xs) (hsx : SlE w (.slice (some ad) ys.length c) ys) (hbase : base ≤ w.heap.size) (hl : xs.length + ys.length ≤ 1000000000000)
    (hK : ∀ v' w', OwnE w' base v' (xs ++ ys) → w.grownBy w' v.ownBlock → wpList Tryd.prog ops Q rest (a.put o.dst v') w') :
    wpList Tryd.prog ops Q (o :: rest) a w := by
  obtain ⟨i0, hi, hz0, hz1, hz2⟩ := info_parts Tryd.infoEnt
  refine wpList_append_own_wide _ hgd s x 25 ho base 58 i0 _ 9 80 Tryd.underlying25 hi hz0 hz1 hz2 rfl (by decide) v xs.length (Ecs xs) hs how ad ys.length c (Ecs ys) hx (Ecs_length ys) hsx.add (Ecs_one ys) ?_ ?_ hbase ?_
  · unfold maxLen; omega
  · omega
  · intro v' w' h1 h2 _
    exact hK v' w' (by unfold OwnE; rw [List.length_append, Ecs_app]; exact h1) h2

set_option maxHeartbeats 400000 in
/-- slices.Clone: new memory; nil of nil. -/
theorem cloneE_any (v : Value) (xs : List Ent) (w : World) (hs : SlE w v xs) (hl : xs.length ≤ 1000000000000) :
    Calls Tryd.prog 45 #[v] w fun e w' => ∃ v', e = .returned v' ∧ OwnE w' w.heap.size v' xs ∧ Up w w' := by
  have hs0 := hs
  obtain ⟨ao, cap, rfl, hc, hn, hx⟩ := hs
  cases ao with
  | none =>
    have h0 : xs = [] := List.eq_nil_of_length_eq_zero (by have := hn rfl; omega)
    subst h0
    have hq : ∀ u, (binOp .eql 25 (.slice none 0 cap) (.slice none 0 0)).run Tryd.prog u = .ok (.bool true) u := fun u => Lib.run_eql_slice_nil (P := Tryd.prog) u 25 58 none 0 cap 0 0 Tryd.underlying25
    clear hx hs0 hn hc
    go_enter Tryd.func45, Tryd.ntmps45
    go_wp2
    go_ret
    exact ⟨_, rfl, OwnE.nil _ _, Up.refl _⟩
  | some ad =>
    have hq : ∀ u, (binOp .eql 25 (.slice (some ad) xs.length cap) (.slice none 0 0)).run Tryd.prog u = .ok (.bool false) u := fun u => Lib.run_eql_slice_nil (P := Tryd.prog) u 25 58 (some ad) xs.length cap 0 0 Tryd.underlying25
    clear hx hn
    go_enter Tryd.func45, Tryd.ntmps45
    go_wp2_with (at_builtin; refine wpList_appE _ rfl (.tmp 5) (.tmp 6) rfl w.heap.size _ [] xs rfl ad cap rfl ?ho (hs0.up ?hu) ?hb ?hl ?_)
    case ho => exact ⟨rfl, .inr ⟨w.heap.size, 0, #[], rfl, Nat.le_refl _, heap_alloc_new _ _, Nat.le_refl _, by unfold maxLen; omega, rfl, rfl⟩⟩
    case hu => exact Up.alloc _ _
    case hb => simp
    case hl => simp; omega
    intro v' w' ho hb
    go_wp2
    go_ret
    exact ⟨_, rfl, ho, Touch.up (S := [w.heap.size]) (((Touch.refl w _).alloc _).trans (Touch.of_grown hb (fun k hk => by simp [Value.ownBlock] at hk; simp [hk])) (fun k hk => .inl hk)) (fun k hk => by simp at hk; omega)⟩

theorem strClone_any (s : ByteArray) (w : World) (hlim : s.size ≤ 281474976710656) : Calls Tryd.prog 46 #[.string s] w fun e w' => e = .returned (.string s) ∧ Up w w' := by
  have hc := fun u => Tryd.stringslite_Clone s u hlim
  go_enter Tryd.func46, Tryd.ntmps46
  go_wp2_with fail
  refine (hc _).mono ?_
  rintro e w1 ⟨rfl, u1⟩
  go_wp2
  go_ret
  exact ⟨rfl, u1⟩

/-- A cell that is written with what it holds. -/
theorem setCell_same {w : World} {g i : Nat} {cs : Array Value} {t : TypeId} {v : Value} (h : w.heap[g]? = some (.cells cs t (0, 0))) (hv : cs[i]? = some v) : (w.setCell ⟨g, i, none⟩ v).heap[g]? = some (.cells cs t (0, 0)) := by
  rw [heap_setCell_same _ _ _ _ _ _ h]
  congr 2
  apply Array.ext_getElem?
  intro j
  rw [Array.getElem?_setIfInBounds]
  split
  · rename_i e
    subst e
    split
    · exact hv.symm
    · rename_i hn
      rw [Array.getElem?_eq_none (by omega)]
  · rfl
end Go.Proofs.YtdddfapelencoaaDoor
