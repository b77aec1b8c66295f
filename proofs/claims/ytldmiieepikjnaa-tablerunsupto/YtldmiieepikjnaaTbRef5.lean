/- table: the reference's All and From; Delete in one. Own work. -/
import Derived.Test.YtldmiieepikjnaaTbRef4
import Derived.Laws.AppendOwnNone
import Derived.Test.YtldmiieepikjnaaHeldTo
set_option linter.unusedVariables false
set_option linter.unusedSimpArgs false
namespace Go.Proofs.Ytldmiieepikjnaa
open Go Go.RowKit

theorem rDelete_none (k : ByteArray) (b : Nat) (v : Value) (lim : Int) (xs : List (KV Int)) (w : World) (h : RTab w b v lim xs) (hk : KeyOk k) (hn : xs.length ≤ 4000000000000) (hg : getL k xs = none) :
    Calls Try.prog 17 #[.pointer (some ⟨b, 0, none⟩), .string k] w fun e w' => e = .returned (.bool false) ∧ RDone w b v lim xs w' := by
  have qp := place_any k b v lim xs w h hk (by omega)
  have qh : ∀ {w' : World}, Up w w' → Calls Try.prog 48 #[.pointer (some ⟨b, 0, none⟩), .int .i64 (pl k xs : Int), .string k] w' fun e w'' => e = .returned (.bool (getL k xs).isSome) ∧ w'' = w' := fun u => has_any k b v lim xs _ (h.up u) (by omega)
  rw [hg] at qh
  have fin : ∀ {w' : World}, Up w w' → RDone w b v lim xs w' := fun u => RDone.same h u
  clear h
  go_enter Try.func17, Try.ntmps17
  go_wp2_with (first
    | (go_at_call 47; refine qp.mono ?_; clear qp; rintro e w1 ⟨rfl, u1⟩)
    | (go_at_call 48; refine (qh u1).mono ?_; clear qh; rintro e w2 ⟨rfl, hw⟩; obtain rfl : w1 = w2 := hw.symm))
  go_ret
  exact ⟨rfl, fin u1⟩
theorem rDelete_any (k : ByteArray) (b : Nat) (v : Value) (lim : Int) (xs : List (KV Int)) (w : World) (h : RTab w b v lim xs) (hk : KeyOk k) (hn : xs.length ≤ 4000000000000) :
    Calls Try.prog 17 #[.pointer (some ⟨b, 0, none⟩), .string k] w fun e w' => e = .returned (.bool (getL k xs).isSome) ∧ RDone w b v lim (if (getL k xs).isSome then delL k xs else xs) w' := by
  cases hg : getL k xs with
  | some u => exact rDelete_found k u b v lim xs w h hk hn hg
  | none => exact rDelete_none k b v lim xs w h hk (by omega) hg

theorem up_grown {a b c : World} {k : Nat} (h : Up a b) (g : b.grownBy c (some k)) (hk : a.heap.size ≤ k) : Up a c :=
  ((Touch.of_up h [k]).trans (Touch.of_grown g (S := [k]) (fun j e => by simp at e; simp [e])) (fun j hj => .inl hj)).up (fun j hj => by simp at hj; omega)

/-- What an answer of All or From is: a row of its own, in a new block. -/
def Row (w : World) (xs : List (KV Int)) (e : Ending) (w' : World) : Prop := ∃ v, e = .returned v ∧ SlIt w' v xs ∧ (∀ k ∈ ob v, w.heap.size ≤ k) ∧ Up w w'

theorem rAll_nil (w : World) : Calls Try.prog 21 #[.pointer none] w (Row w []) := by
  go_enter Try.func21, Try.ntmps21
  go_wp2
  go_ret
  exact ⟨_, rfl, ⟨_, _, rfl, Nat.le_refl _, fun h => absurd rfl h⟩, fun k hk => by simp [ob, Value.ownBlock] at hk; omega, Up.alloc _ _⟩
theorem rFrom_nil (k : ByteArray) (w : World) : Calls Try.prog 22 #[.pointer none, .string k] w (Row w []) := by
  go_enter Try.func22, Try.ntmps22
  go_wp2
  go_ret
  exact ⟨_, rfl, ⟨_, _, rfl, Nat.le_refl _, fun h => absurd rfl h⟩, fun k hk => by simp [ob, Value.ownBlock] at hk; omega, Up.alloc _ _⟩

/-- append of items to none, as the model carries it out. -/
theorem run_items {w : World} {g : Nat} {vx : Value} {ys : List (KV Int)} (ty : TypeId) (hg : w.heap[g]? = some (.cells #[] 51 (0, 0))) (hx : (vx = .slice none 0 0 ∧ ys = []) ∨ ∃ gx o c, vx = .slice (some ⟨gx, o, none⟩) ys.length c ∧ ∀ i (h : i < ys.length), w.cell? ⟨gx, o + i * 2, none⟩ = some (.string ys[i].1) ∧ w.cell? ⟨gx, o + i * 2 + 1, none⟩ = some (.int .i64 ys[i].2)) (hl : ys.length ≤ 4000000000000) :
    ∃ v' w', (Builtin.append_ #[39, 39] ty #[.slice (some ⟨g, 0, none⟩) 0 0, vx]).run Try.prog w = .ok v' w' ∧ SlIt w' v' ys ∧ w.grownBy w' (some g) ∧ (∀ k ∈ ob v', k = g ∨ k = w.heap.size) := by
  obtain ⟨i0, hi, hz0, hz1, hz2⟩ := info_parts Try.infoItem
  have hg' := (Array.getElem?_eq_some_iff.1 hg).1
  have how : w.ownsRow 0 51 2 (.slice (some ⟨g, 0, none⟩) 0 0) 0 [] := ⟨rfl, .inr ⟨g, 0, #[], rfl, Nat.zero_le _, hg, Nat.le_refl _, Nat.zero_le _, rfl, rfl⟩⟩
  rcases hx with ⟨rfl, rfl⟩ | ⟨gx, o, c, rfl, hcell⟩
  · refine ⟨_, w, run_append_owned_none (P := Try.prog) (w := w) 0 39 ty 51 i0 2 Try.underlying39 hi _ 0 [] how, ⟨_, _, rfl, Nat.le_refl _, fun h => absurd rfl h⟩, ⟨rfl, rfl, rfl, Nat.le_refl _, fun _ _ _ => rfl⟩, fun k hk => .inl (by simpa [ob, Value.ownBlock] using hk)⟩
  · have hnews : ∀ j u, (Its ys)[j]? = some u → w.cell? ((⟨gx, o, none⟩ : Addr).add j) = some u := by
      intro j u hj
      rw [Addr.add_lit]
      have hjl : j < ys.length * 2 := by rw [← Its_length]; exact (List.getElem?_eq_some_iff.1 hj).1
      have h2 := Its_at ys (j / 2) (by omega)
      have h3 := hcell (j / 2) (by omega)
      rcases Nat.mod_two_eq_zero_or_one j with e | e
      · have ej : j / 2 * 2 = j := by omega
        rw [ej] at h2 h3
        rw [h3.1, ← h2.1, hj]
      · have ej : j / 2 * 2 + 1 = j := by omega
        rw [ej] at h2
        rw [show o + j / 2 * 2 + 1 = o + j by omega] at h3
        rw [h3.2, ← h2.2, hj]
    have hone : ∀ u ∈ Its ys, u.oneCell' = true := by
      intro u hu
      simp only [List.mem_flatMap, List.mem_cons, List.not_mem_nil, or_false] at hu
      obtain ⟨x, _, rfl | rfl⟩ := hu <;> rfl
    obtain ⟨v', w', hr, r1, r2, r3, r4⟩ := run_append_own_at (P := Try.prog) w 0 39 ty 51 i0 (.agg #[.string ⟨#[]⟩, .int .i64 0]) 2 24 Try.underlying39 hi hz0 hz1 hz2 rfl (by decide) (.slice (some ⟨g, 0, none⟩) 0 0) 0 [] how ⟨gx, o, none⟩ ys.length c (Its ys) (Its_length ys) hnews hone (by unfold maxLen; omega) (by omega) (Nat.zero_le _)
    rw [Nat.zero_add, List.nil_append] at r1
    refine ⟨v', w', hr, OwnIt.sl r1, r2, fun k hk => ?_⟩
    rw [mem_ob] at hk
    rcases r4 with e | e
    · rw [e] at hk; simp [Value.ownBlock] at hk; exact .inl hk.symm
    · rw [e] at hk; exact .inr (Option.some.inj hk).symm
theorem own_ask {w : World} {base : Nat} {v : Value} {xs : List (KV Int)} (h : OwnIt w base v xs) : (v = .slice none 0 0 ∧ xs = []) ∨ ∃ gx o c, v = .slice (some ⟨gx, o, none⟩) xs.length c ∧ ∀ i (h : i < xs.length), w.cell? ⟨gx, o + i * 2, none⟩ = some (.string xs[i].1) ∧ w.cell? ⟨gx, o + i * 2 + 1, none⟩ = some (.int .i64 xs[i].2) := by
  have hs := h.sl
  rcases h.2 with ⟨rfl, h0⟩ | ⟨g, cap, cur, rfl, _⟩
  · exact .inl ⟨rfl, List.eq_nil_of_length_eq_zero h0⟩
  · refine .inr ⟨g, 0, cap, rfl, fun i hi => ?_⟩
    obtain ⟨ao, c, he, _, hx⟩ := hs
    simp only [Value.slice.injEq] at he
    obtain ⟨rfl, _, _⟩ := he
    obtain ⟨g', o, he, hcell⟩ := hx (by rintro rfl; simp at hi)
    simp only [Option.some.injEq, Addr.mk.injEq] at he
    obtain ⟨rfl, rfl, _⟩ := he
    exact hcell i hi

/-- An append whose run is known. -/
theorem wpList_run {ops : Array Oper} {rest : List Oper} {o : Oper} {a : Act} {Q : Exit → Act → World → Prop} {w w' : World} {v vx v' : Value} {t : TypeId} (hgd : o.guard = none) (s x : Operand)
    (ho : o.op = .call { callee := .builtin .append, args := #[s, x], argTypes := #[t, t] }) (hs : a.eval s = v) (hx : a.eval x = vx) (hr : (Builtin.append_ #[t, t] o.type #[v, vx]).run Try.prog w = .ok v' w')
    (h : wpList Try.prog ops Q rest (a.put o.dst v') w') : wpList Try.prog ops Q (o :: rest) a w := by
  refine wpList_plain hgd fun K hKK => ?_
  unfold Oper.wp execOp
  simp only [ho, resolve, invoke, builtin, Sem.run_bind, Sem.run_pure, Result.andThen_ok, List.map_toArray, List.map_cons, List.map_nil, hs, hx, hr]
  exact hKK _ _ h
theorem wp_run {o : Oper} {a : Act} {K : Act → World → Prop} {Q : Exit → Act → World → Prop} {w w' : World} {v vx v' : Value} {t : TypeId} (s x : Operand)
    (ho : o.op = .call { callee := .builtin .append, args := #[s, x], argTypes := #[t, t] }) (hs : a.eval s = v) (hx : a.eval x = vx) (hr : (Builtin.append_ #[t, t] o.type #[v, vx]).run Try.prog w = .ok v' w')
    (h : K (a.put o.dst v') w') : o.wp Try.prog a w K Q := by
  unfold Oper.wp execOp
  simp only [ho, resolve, invoke, builtin, Sem.run_bind, Sem.run_pure, Result.andThen_ok, List.map_toArray, List.map_cons, List.map_nil, hs, hx, hr]
  exact h

set_option maxRecDepth 20000 in
set_option maxHeartbeats 1000000 in
theorem rAll_any (b : Nat) (v : Value) (lim : Int) (xs : List (KV Int)) (w : World) (h : RTab w b v lim xs) (hn : xs.length ≤ 4000000000000) :
    Calls Try.prog 21 #[.pointer (some ⟨b, 0, none⟩)] w (Row w xs) := by
  have h1 := h.up (Up.alloc w (.cells #[] 51))
  obtain ⟨c0, _, _⟩ := h1.cells
  obtain ⟨v', w', hr, q1, q2, q3⟩ := run_items (g := w.heap.size) 39 (heap_alloc_new w _) (own_ask h1.2.1) hn
  have fin : Row w xs (.returned v') w' := ⟨v', rfl, q1, fun k hk => (by
    rcases q3 k hk with e | e
    · omega
    · rw [World.size_alloc] at e; omega), up_grown (Up.alloc w _) q2 (Nat.le_refl _)⟩
  have HF : Hid (Row w xs (.returned v') w') := fin
  obtain ⟨ao, cap, rfl⟩ := h.2.1.sl.slice
  obtain ⟨N, hN⟩ : ∃ N, xs.length = N := ⟨_, rfl⟩
  rw [hN] at hr c0
  clear h h1 q1 q2 q3 hn fin hN
  go_enter Try.func21, Try.ntmps21
  go_wp2_with (at_builtin; refine wpList_run rfl (.tmp 7) (.tmp 11) rfl rfl rfl hr ?_)
  go_ret
  exact HF.out

theorem from_row (k : ByteArray) {w : World} {b : Nat} {v : Value} {lim : Int} {xs : List (KV Int)} (h : RTab w b v lim xs) :
    ∃ vx, (∀ uu, (Instr.slice 39 v (some (.int .i64 (pl k xs : Int))) none none).run Try.prog uu = .ok vx uu) ∧
      ∀ {w' : World}, Up w w' → ((vx = .slice none 0 0 ∧ fromL k xs = []) ∨ ∃ gx o c, vx = .slice (some ⟨gx, o, none⟩) (fromL k xs).length c ∧ ∀ i (h : i < (fromL k xs).length), w'.cell? ⟨gx, o + i * 2, none⟩ = some (.string (fromL k xs)[i].1) ∧ w'.cell? ⟨gx, o + i * 2 + 1, none⟩ = some (.int .i64 (fromL k xs)[i].2)) := by
  obtain ⟨i0, hi, hz0, hz1, hz2⟩ := info_parts Try.infoItem
  have hsz : ∀ uu, (sizeOf 51).run Try.prog uu = .ok 2 uu := fun uu => by simp [sizeOf, typeInfo, hi, hz1]
  have hel : Try.prog.elem 39 = 51 := by kernel_rfl
  have hu : Try.prog.underlying 39 = some (.slice (Try.prog.elem 39)) := by rw [hel]; exact Try.underlying39
  have hpl := pl_le k xs
  have hlen : (fromL k xs).length = xs.length - pl k xs := by rw [← drop_pl h.2.2.1, List.length_drop]
  rcases h.2.1.2 with ⟨rfl, h0⟩ | ⟨g, cap, cur, rfl, hb, hg0, hnc, hcm, hcs, ht⟩
  · obtain rfl := List.eq_nil_of_length_eq_zero h0
    refine ⟨.slice none 0 0, fun uu => ?_, fun _ => .inl ⟨rfl, rfl⟩⟩
    rw [run_slice_l uu 39 none 0 0 hu .i64 _ (by simp [pl, lo]) (by simp [pl, lo]), hel, hsz]
    simp [Result.andThen, sliced, pl, lo]
  · refine ⟨sliced (some ⟨g, 0, none⟩) (pl k xs) xs.length cap 2, fun uu => ?_, fun {w'} u => .inr ?_⟩
    · rw [run_slice_l uu 39 (some ⟨g, 0, none⟩) _ cap hu .i64 _ (by omega) (by omega), hel, hsz]
      simp [Result.andThen]
    · have hcell : ∀ i (hi : i < xs.length), w'.cell? ⟨g, i * 2, none⟩ = some (.string xs[i].1) ∧ w'.cell? ⟨g, i * 2 + 1, none⟩ = some (.int .i64 xs[i].2) := fun i hi => by
        obtain ⟨ao, c, he, _, hx⟩ := (h.up u).2.1.sl
        simp only [Value.slice.injEq] at he
        obtain ⟨rfl, _, _⟩ := he
        obtain ⟨g', o, he, hc⟩ := hx (by rintro rfl; simp at hi)
        simp only [Option.some.injEq, Addr.mk.injEq] at he
        obtain ⟨rfl, rfl, _⟩ := he
        have := hc i hi
        rwa [Nat.zero_add] at this
      refine ⟨g, if cap = pl k xs then 0 else pl k xs * 2, cap - pl k xs, ?_, fun i hi => ?_⟩
      · rw [hlen]
        unfold sliced
        split <;> simp [Addr.add_lit]
      · have hne : ¬ cap = pl k xs := by omega
        rw [if_neg hne]
        have hi2 : pl k xs + i < xs.length := by omega
        have e : (fromL k xs)[i] = xs[pl k xs + i] := by
          have := drop_pl h.2.2.1 k
          simp only [← this, List.getElem_drop]
        rw [e, show pl k xs * 2 + i * 2 = (pl k xs + i) * 2 by omega]
        exact hcell _ hi2

set_option maxRecDepth 20000 in
set_option maxHeartbeats 2000000 in
theorem rFrom_any (k : ByteArray) (b : Nat) (v : Value) (lim : Int) (xs : List (KV Int)) (w : World) (h : RTab w b v lim xs) (hk : KeyOk k) (hn : xs.length ≤ 4000000000000) :
    Calls Try.prog 22 #[.pointer (some ⟨b, 0, none⟩), .string k] w (Row w (fromL k xs)) := by
  obtain ⟨vx, hslice, hask⟩ := from_row k h
  have qp : ∀ {w' : World}, Up w w' → Calls Try.prog 47 #[.pointer (some ⟨b, 0, none⟩), .string k] w' fun e w'' => e = .returned (.int .i64 (pl k xs : Int)) ∧ Up w w'' ∧ Up w' w'' := fun {w'} u =>
    (place_any k b v lim xs w' (h.up u) hk (by omega)).mono fun e w'' ⟨he, hu⟩ => ⟨he, u.trans hu, hu⟩
  have sof : ∀ {w' : World}, Up w w' → w'.cell? ⟨b, 0, none⟩ = some v ∧ Up w w' := fun u => ⟨(h.up u).cells.1, u⟩
  have hfl : (fromL k xs).length ≤ 4000000000000 := Nat.le_trans (List.length_filter_le ..) hn
  have HAP : ∀ {w' : World}, Up (w.alloc (.cells #[] 51)).drew w' → ∃ v' w2, (Builtin.append_ #[39, 39] 39 #[.slice (some ⟨w.heap.size, 0, none⟩) 0 0, vx]).run Try.prog w' = .ok v' w2 ∧ Up w w2 ∧ Row w (fromL k xs) (.returned v') w2 := fun {w'} u => by
    have u0 : Up w (w.alloc (.cells #[] 51)).drew := (Up.alloc w _).trans (Up.drew _)
    have hg : w'.heap[w.heap.size]? = some (.cells #[] 51 (0, 0)) := (u.block _ (by show w.heap.size < (w.alloc _).heap.size; rw [World.size_alloc]; omega)).trans (heap_alloc_new w _)
    obtain ⟨v', w2, hr, q1, q2, q3⟩ := run_items (g := w.heap.size) 39 hg (hask (u0.trans u)) hfl
    have u2 := up_grown (u0.trans u) q2 (Nat.le_refl _)
    have hws : w.heap.size ≤ w'.heap.size := (u0.trans u).size
    exact ⟨v', w2, hr, u2, v', rfl, q1, fun j hj => (by
      rcases q3 j hj with e | e
      · omega
      · omega), u2⟩
  generalize fromL k xs = ys at HAP ⊢
  obtain ⟨P, hP⟩ : ∃ P, pl k xs = P := ⟨_, rfl⟩
  rw [hP] at hslice
  simp only [hP] at qp
  clear h hask hP hn hfl hk
  go_enter Try.func22, Try.ntmps22
  go_wp2_with fail
  have hs := sof ((Up.alloc w (.cells #[] 51)).trans (Up.drew _))
  refine wp_region_held_drew (S := fun w' => w'.cell? ⟨b, 0, none⟩ = some v ∧ Up w w') (by kernel_rfl) hs (fun hs0 => ?_)
  refine take_to (some 9) (i := 0) (v := .slice (some ⟨w.heap.size, 0, none⟩) 0 0) rfl rfl (by kernel_rfl) (by kernel_rfl) (by kernel_rfl) (fun _ _ _ h => h) (Or.inl ⟨by kernel_rfl, by intro w hSw; (try obtain ⟨c0, _⟩ := hSw); go_simp⟩) hs ?_
  simp only [Act.put, List.setIfInBounds_toArray, List.set_cons_zero, List.set_cons_succ]
  refine take_to (some 10) (i := 1) (v := .pointer (some ⟨b, 0, none⟩)) rfl rfl (by kernel_rfl) (by kernel_rfl) (by kernel_rfl) (fun _ _ _ h => h) (Or.inl ⟨by kernel_rfl, by intro w hSw; (try obtain ⟨c0, _⟩ := hSw); go_simp⟩) hs ?_
  simp only [Act.put, List.setIfInBounds_toArray, List.set_cons_zero, List.set_cons_succ]
  refine take_to (some 11) (i := 2) (v := .pointer (some ⟨b, 0, none⟩)) rfl rfl (by kernel_rfl) (by kernel_rfl) (by kernel_rfl) (fun _ _ _ h => h) (Or.inl ⟨by kernel_rfl, by intro w hSw; (try obtain ⟨c0, _⟩ := hSw); go_simp⟩) hs ?_
  simp only [Act.put, List.setIfInBounds_toArray, List.set_cons_zero, List.set_cons_succ]
  refine take_to (some 12) (i := 3) (v := .pointer (some ⟨b, 0, none⟩)) rfl rfl (by kernel_rfl) (by kernel_rfl) (by kernel_rfl) (fun _ _ _ h => h) (Or.inl ⟨by kernel_rfl, by intro w hSw; (try obtain ⟨c0, _⟩ := hSw); go_simp⟩) hs ?_
  simp only [Act.put, List.setIfInBounds_toArray, List.set_cons_zero, List.set_cons_succ]
  refine take_to (some 13) (i := 4) (v := v) rfl rfl (by kernel_rfl) (by kernel_rfl) (by kernel_rfl) (fun _ _ _ h => h) (Or.inl ⟨by kernel_rfl, by intro w hSw; (try obtain ⟨c0, _⟩ := hSw); go_simp⟩) hs ?_
  simp only [Act.put, List.setIfInBounds_toArray, List.set_cons_zero, List.set_cons_succ]
  refine take_to (some 14) (i := 5) (v := .pointer (some ⟨b, 0, none⟩)) rfl rfl (by kernel_rfl) (by kernel_rfl) (by kernel_rfl) (fun _ _ _ h => h) (Or.inl ⟨by kernel_rfl, by intro w hSw; (try obtain ⟨c0, _⟩ := hSw); go_simp⟩) hs ?_
  simp only [Act.put, List.setIfInBounds_toArray, List.set_cons_zero, List.set_cons_succ]
  refine take_to (some 15) (i := 6) (v := .string k) rfl rfl (by kernel_rfl) (by kernel_rfl) (by kernel_rfl) (fun _ _ _ h => h) (Or.inl ⟨by kernel_rfl, by intro w hSw; (try obtain ⟨c0, _⟩ := hSw); go_simp⟩) hs ?_
  simp only [Act.put, List.setIfInBounds_toArray, List.set_cons_zero, List.set_cons_succ]
  refine wpAnyH_ready (rs := [7]) (by kernel_rfl) (by simp) ?_
  refine AllReadyH.cons rfl (fun K hK => ?_) AllReadyH.nil
  go_simp
  refine (qp hs.2).mono ?_
  rintro e w4 ⟨rfl, u4, u5⟩
  replace hs := sof u4
  refine hK.out _ _ hs (fun _ => ?_)
  clear hK K
  refine take_to (some 17) (i := 8) (v := vx) rfl rfl (by kernel_rfl) (by kernel_rfl) (by kernel_rfl) (fun _ _ _ h => h) (Or.inl ⟨by kernel_rfl, by intro w hSw; (try obtain ⟨c0, _⟩ := hSw); go_simp⟩) hs ?_
  simp only [Act.put, List.setIfInBounds_toArray, List.set_cons_zero, List.set_cons_succ]
  obtain ⟨v', w6, hr, u6, hrow⟩ := HAP u5
  refine wpAnyH_ready (rs := [9]) (by kernel_rfl) (by simp) ?_
  refine AllReadyH.cons rfl (fun K hK => ?_) AllReadyH.nil
  rw [if_pos (by kernel_rfl)]
  refine wp_run (.tmp 9) (.tmp 17) rfl rfl rfl hr ?_
  replace hs := sof u6
  refine hK.out _ _ hs (fun _ => ?_)
  clear hK K
  simp only [Act.put, List.setIfInBounds_toArray, List.set_cons_zero, List.set_cons_succ]
  refine take_to (some 5) (i := 10) (v := v') rfl rfl (by kernel_rfl) (by kernel_rfl) (by kernel_rfl) (fun _ _ _ h => h) (Or.inl ⟨by kernel_rfl, by intro w hSw; (try obtain ⟨c0, _⟩ := hSw); go_simp⟩) hs ?_
  simp only [Act.put, List.setIfInBounds_toArray, List.set_cons_zero, List.set_cons_succ]
  refine wpAnyH_done (by kernel_rfl) ?_ _
  clear hs hs0 sof HAP qp hr hslice
  have HROW : Hid (Row w ys (.returned v') w6) := hrow
  clear hrow
  go_wp2
  go_ret
  exact HROW.out
end Go.Proofs.Ytldmiieepikjnaa
