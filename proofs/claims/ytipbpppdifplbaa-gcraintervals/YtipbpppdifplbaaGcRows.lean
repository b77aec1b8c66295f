/- gcra: two rows of numbers that grow: the times and the units of those admitted. -/
import Derived.Test.YtipbpppdifplbaaGcRoom
import Derived.Laws.OwnMore
import Derived.Laws.MakeOwn
import Derived.OwnWalk
set_option linter.unusedVariables false
namespace Go.Proofs.Ytipbpppdifplbaa
open Go Go.RowKit

theorem Try.infoU64 : (Try.prog.info? 24).map (fun i => (i.zero, i.size, i.bytes)) = some (some (.int .u64 0), 1, 8) := by kernel_rfl

/-- Numbers as values. -/
abbrev Vs (ds : List Nat) : List Value := ds.map fun d => V d
/-- An own row of numbers. -/
def OwnU (w : World) (base : Nat) (v : Value) (ds : List Nat) : Prop := w.ownsRow base 24 1 v ds.length (Vs ds)

/-- All blocks are as they were, but for the block r. -/
abbrev But (r : Nat) (w w' : World) : Prop := w.grownBy w' (some r)
theorem But.of_up {w w' : World} (r : Nat) (h : Up w w') : But r w w' := ⟨h.os, h.tape, h.output, h.size, fun k hk _ => h.block k hk⟩
theorem But.trans {r : Nat} {a b c : World} (h : But r a b) (k : But r b c) : But r a c :=
  ⟨k.os.trans h.os, k.tape.trans h.tape, k.output.trans h.output, Nat.le_trans h.size k.size, fun i hi hne => (k.block i (Nat.lt_of_lt_of_le hi h.size) hne).trans (h.block i hi hne)⟩
theorem But.below {r B : Nat} {a b : World} (h : But r a b) (hr : B ≤ r) (hB : B ≤ a.heap.size) : Below B a b :=
  ⟨h.os, h.tape, h.output, h.size, fun k hk => h.block k (by omega) (by intro e; cases e; omega)⟩
theorem own_kept {w w' : World} {base : Nat} {v : Value} {xs : List Nat} (h : OwnU w base v xs) (hk : ∀ g, v.ownBlock = some g → w'.heap[g]? = w.heap[g]?) : OwnU w' base v xs := by
  obtain ⟨hl, ⟨rfl, hn⟩ | ⟨g, cap, cur, rfl, hb, hg, hnc, hcm, hcs, ht⟩⟩ := h
  · exact ⟨hl, .inl ⟨rfl, hn⟩⟩
  · exact ⟨hl, .inr ⟨g, cap, cur, rfl, hb, by rw [hk g rfl]; exact hg, hnc, hcm, hcs, ht⟩⟩
theorem own_up {w w' : World} {base : Nat} {v : Value} {xs : List Nat} (h : OwnU w base v xs) (hu : Up w w') : OwnU w' base v xs :=
  own_kept h fun g hg => hu.block g (World.ownsRow.lt h g hg).2
theorem own_but {w w' : World} {r base : Nat} {v : Value} {xs : List Nat} (h : OwnU w base v xs) (hu : But r w w') (hne : v.ownBlock ≠ some r) : OwnU w' base v xs :=
  own_kept h fun g hg => hu.block g (World.ownsRow.lt h g hg).2 (by intro e; apply hne; rw [hg, e])
theorem own_low {w : World} {base base' : Nat} {v : Value} {xs : List Nat} (h : OwnU w base v xs) (hb : base' ≤ base) : OwnU w base' v xs := by
  obtain ⟨hl, ⟨rfl, hn⟩ | ⟨g, cap, cur, rfl, hb2, hg, hnc, hcm, hcs, ht⟩⟩ := h
  · exact ⟨hl, .inl ⟨rfl, hn⟩⟩
  · exact ⟨hl, .inr ⟨g, cap, cur, rfl, Nat.le_trans hb hb2, hg, hnc, hcm, hcs, ht⟩⟩
/-- An own row reads as its numbers. -/
theorem own_reads {w : World} {base : Nat} {v : Value} {xs : List Nat} (h : OwnU w base v xs) : SlF w v (fun i => xs.getD i 0) xs.length := by
  obtain ⟨hl, ⟨rfl, hn⟩ | ⟨g, cap, cur, rfl, hb, hg, hnc, hcm, hcs, ht⟩⟩ := h
  · exact ⟨none, 0, by rw [hn], fun hne => absurd hn hne⟩
  · refine ⟨_, cap, rfl, fun _ => ⟨g, 0, rfl, fun i hi => ?_⟩⟩
    rw [cell_of_row w g _ cur 24 (0, 0) hg]
    have : (Vs xs)[i]? = some (V xs[i]) := by simp [hi]
    rw [← ht, List.getElem?_take] at this
    have e : xs.getD i 0 = xs[i] := by simp [hi]
    show cur[0 + i]? = some (V (xs.getD i 0))
    rw [e]
    split at this
    · simpa using this
    · cases this

/-- append(s, c) where s is an own row of numbers and d the one number of a new block, told whole: either the row moves to a new block and no old block is turned, or it stays where it is and no other block is turned. -/
theorem wpList_pushU {ops : Array Oper} {rest : List Oper} {o : Oper} {a : Act} {Q : Exit → Act → World → Prop} (w : World) (hgd : o.guard = none) (s x : Operand)
    (ho : o.op = .call { callee := .builtin .append, args := #[s, x], argTypes := #[42, 42] }) (base : Nat) (v : Value) (bs : List Nat) (hs : a.eval s = v)
    (hx : a.eval x = .slice (some ⟨w.heap.size, 0, none⟩) 1 1) (how : OwnU w base v bs) (hbase : base ≤ w.heap.size) (hl : bs.length ≤ 2000) (d : Nat)
    (hK : ∀ v' w', OwnU w' base v' (bs ++ [d]) → ((OwnU w' w.heap.size v' (bs ++ [d]) ∧ Up w w') ∨ (∃ g cap, v = .slice (some ⟨g, 0, none⟩) bs.length cap ∧ v' = .slice (some ⟨g, 0, none⟩) (bs.length + 1) cap ∧ But g w w')) → wpList Try.prog ops Q rest (a.put o.dst v') w') :
    wpList Try.prog ops Q (o :: rest) a (w.alloc (.cells #[.int .u64 (d : Int)] 24)) := by
  obtain ⟨i0, hi, hz0, hz1, hz2⟩ := info_parts Try.infoU64
  have hnews : ∀ j u, ([V d] : List Value)[j]? = some u → (w.alloc (.cells #[.int .u64 (d : Int)] 24)).cell? ((⟨w.heap.size, 0, none⟩ : Addr).add j) = some u := by
    intro j u hj
    match j, hj with
    | 0, hj => simp at hj; subst hj; rw [Addr.add_lit, cell_of_row _ _ _ _ _ _ (heap_alloc_new _ _)]; rfl
  have h1c : ∀ u ∈ ([V d] : List Value), u.oneCell' = true := by intro u hu; simp at hu; subst hu; rfl
  have how' : OwnU (w.alloc (.cells #[.int .u64 (d : Int)] 24)) base v bs := how.alloc _
  by_cases hroom : ∃ g cap, v = .slice (some ⟨g, 0, none⟩) bs.length cap ∧ bs.length + 1 ≤ cap
  · obtain ⟨g, cap, rfl, hr⟩ := hroom
    have hgl := (World.ownsRow.lt how g rfl).2
    refine wpList_append_fits _ hgd s x 42 ho base 24 i0 1 Try.underlying42 hi hz1 g bs.length cap (Vs bs) hs how' ⟨w.heap.size, 0, none⟩ 1 1 [V d] hx rfl hnews h1c hr ?_
    intro w' h1 h2
    refine hK _ w' (by simpa [OwnU] using h1) (.inr ⟨g, cap, rfl, rfl, ?_⟩)
    exact (But.of_up g (Up.alloc w _)).trans h2
  · refine wpList_plain hgd fun K hKK => ?_
    have hal : Up w (w.alloc (.cells #[.int .u64 (d : Int)] 24)) := Up.alloc w _
    have hlast : (Vs bs ++ [V d]) = Vs (bs ++ [d]) := by simp
    have hzc : (Value.int IntKind.u64 0).cells.size = 1 := rfl
    rcases how'.2 with ⟨rfl, h0⟩ | ⟨g, cap, cur, rfl, hbg, hg, hnc, hcm, hcs, htake⟩
    · obtain rfl : bs = [] := List.eq_nil_of_length_eq_zero h0
      have hr := run_append_nil (P := Try.prog) (w.alloc (.cells #[.int .u64 (d : Int)] 24)) 42 o.type 24 i0 (.int .u64 0) Try.underlying42 hi hz0 ⟨w.heap.size, 0, none⟩ 1 1 [V d] (by rw [hz1]; rfl) hnews (by omega) (by omega) (by rw [hz2]; omega)
      have hge := grownCap_ge (w.alloc (.cells #[.int .u64 (d : Int)] 24)) 1 0 24
      have hcm2 := grownCap_le_maxLen (w.alloc (.cells #[.int .u64 (d : Int)] 24)) 1 0 24 (by unfold maxLen; omega)
      unfold Oper.wp execOp
      simp only [ho, resolve, invoke, builtin, Sem.run_bind, Sem.run_pure, Result.andThen_ok, List.map_toArray, List.map_cons, List.map_nil, hs, hx, hr]
      generalize grownCap (w.alloc (.cells #[.int .u64 (d : Int)] 24)) 1 0 24 = gc at hge hcm2 ⊢
      have hown : ∀ b0, b0 ≤ w.heap.size → OwnU ((w.alloc (.cells #[.int .u64 (d : Int)] 24)).drew.alloc (.cells ([V d].toArray ++ Builtin.zeroCells (Value.int IntKind.u64 0).cells (gc - 1)) 24)) b0 (.slice (some ⟨(w.alloc (.cells #[.int .u64 (d : Int)] 24)).heap.size, 0, none⟩) 1 gc) ([] ++ [d]) := by
        intro b0 hb0
        refine ⟨by simp, .inr ⟨_, gc, _, rfl, ?_, heap_alloc_new _ _, by simpa using hge, hcm2, ?_, by simp⟩⟩
        · simp; omega
        · simp only [Array.size_append, List.size_toArray, size_zeroCells, hzc, List.length_cons, List.length_nil]; omega
      refine hKK _ _ (hK _ _ (hown base hbase) (.inl ⟨hown _ (Nat.le_refl _), ?_⟩))
      exact hal.trans ((Up.drew _).trans (Up.alloc _ _))
    · rw [Nat.mul_one] at hcs htake
      have hfull : cap < bs.length + 1 := by
        apply Classical.byContradiction
        intro h
        exact hroom ⟨g, cap, rfl, by omega⟩
      have holds : ∀ j u, (Vs bs)[j]? = some u → (w.alloc (.cells #[.int .u64 (d : Int)] 24)).cell? ((⟨g, 0, none⟩ : Addr).add j) = some u := how'.cells (g := g) rfl
      have hr := run_append_grow (P := Try.prog) (w.alloc (.cells #[.int .u64 (d : Int)] 24)) 42 o.type 24 i0 (.int .u64 0) Try.underlying42 hi hz0 ⟨g, 0, none⟩ bs.length cap (Vs bs) (by rw [hz1]; simp) holds ⟨w.heap.size, 0, none⟩ 1 1 [V d] (by rw [hz1]; rfl) hnews (by omega) (by omega)
        (by rw [hz2]; exact growslice_fits (by omega) (by omega))
      have hge := grownCap_ge (w.alloc (.cells #[.int .u64 (d : Int)] 24)) (bs.length + 1) cap 24
      have hcm2 := grownCap_le_maxLen (w.alloc (.cells #[.int .u64 (d : Int)] 24)) (bs.length + 1) cap 24 (by unfold maxLen; omega)
      unfold Oper.wp execOp
      simp only [ho, resolve, invoke, builtin, Sem.run_bind, Sem.run_pure, Result.andThen_ok, List.map_toArray, List.map_cons, List.map_nil, hs, hx, hr]
      generalize grownCap (w.alloc (.cells #[.int .u64 (d : Int)] 24)) (bs.length + 1) cap 24 = gc at hge hcm2 ⊢
      have hown : ∀ b0, b0 ≤ w.heap.size → OwnU ((w.alloc (.cells #[.int .u64 (d : Int)] 24)).drew.alloc (.cells ((Vs bs).toArray ++ [V d].toArray ++ Builtin.zeroCells (Value.int IntKind.u64 0).cells (gc - (bs.length + 1))) 24)) b0 (.slice (some ⟨(w.alloc (.cells #[.int .u64 (d : Int)] 24)).heap.size, 0, none⟩) (bs.length + 1) gc) (bs ++ [d]) := by
        intro b0 hb0
        refine ⟨by simp, .inr ⟨_, gc, _, by simp, ?_, heap_alloc_new _ _, by simpa using hge, hcm2, ?_, ?_⟩⟩
        · simp; omega
        · simp only [Array.size_append, List.size_toArray, size_zeroCells, hzc, List.length_map, List.length_cons, List.length_nil]; omega
        · simp only [Array.toList_append, List.append_assoc]
          rw [← List.append_assoc, hlast, Nat.mul_one]
          have e : (Vs (bs ++ [d])).length = (bs ++ [d]).length := by simp
          rw [← e]; exact List.take_left
      refine hKK _ _ (hK _ _ (hown base hbase) (.inl ⟨hown _ (Nat.le_refl _), ?_⟩))
      exact hal.trans ((Up.drew _).trans (Up.alloc _ _))

/-- The two rows, apart from each other. -/
structure Tw (w0 w : World) (vt vu : Value) (ts us : List Nat) : Prop where
  rt : OwnU w w0.heap.size vt ts
  ru : OwnU w w0.heap.size vu us
  ap : ∀ k, vt.ownBlock = some k → vu.ownBlock = some k → False
  upw : Up w0 w
theorem Tw.empty {w0 w : World} (h : Up w0 w) : Tw w0 w (.slice none 0 0) (.slice none 0 0) [] [] :=
  ⟨⟨rfl, .inl ⟨rfl, rfl⟩⟩, ⟨rfl, .inl ⟨rfl, rfl⟩⟩, (fun k h1 _ => by cases h1), h⟩
theorem Tw.grow {w0 w w' : World} {vt vu : Value} {ts us : List Nat} (h : Tw w0 w vt vu ts us) (hu : Up w w') : Tw w0 w' vt vu ts us :=
  ⟨own_up h.rt hu, own_up h.ru hu, h.ap, h.upw.trans hu⟩
theorem Tw.flip {w0 w : World} {vt vu : Value} {ts us : List Nat} (h : Tw w0 w vt vu ts us) : Tw w0 w vu vt us ts := ⟨h.ru, h.rt, fun k h1 h2 => h.ap k h2 h1, h.upw⟩
/-- The first one has grown by one. -/
theorem Tw.push {w0 w w' : World} {vt vu v' : Value} {ts us : List Nat} {d : Nat} (h : Tw w0 w vt vu ts us) (ho : OwnU w' w0.heap.size v' (ts ++ [d]))
    (hc : (OwnU w' w.heap.size v' (ts ++ [d]) ∧ Up w w') ∨ (∃ g cap, vt = .slice (some ⟨g, 0, none⟩) ts.length cap ∧ v' = .slice (some ⟨g, 0, none⟩) (ts.length + 1) cap ∧ But g w w')) : Tw w0 w' v' vu (ts ++ [d]) us := by
  rcases hc with ⟨h1, h2⟩ | ⟨g, cap, rfl, rfl, h3⟩
  · refine ⟨ho, own_up h.ru h2, fun k h4 h5 => ?_, h.upw.trans h2⟩
    have a := (World.ownsRow.lt h1 k h4).1
    have b := (World.ownsRow.lt h.ru k h5).2
    omega
  · have hg := (World.ownsRow.lt h.rt g rfl).1
    exact ⟨ho, own_but h.ru h3 (fun e => h.ap g rfl e), fun k h4 h5 => h.ap k h4 h5, Below.trans h.upw (h3.below hg h.upw.size)⟩
end Go.Proofs.Ytipbpppdifplbaa
