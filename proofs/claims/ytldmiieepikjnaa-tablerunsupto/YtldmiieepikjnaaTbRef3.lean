/- table: the reference's Put of a new key. Own work. -/
import Derived.Test.YtldmiieepikjnaaTbRef2
import Derived.BigRegion
set_option linter.unusedVariables false
set_option linter.unusedSimpArgs false
namespace Go.Proofs.Ytldmiieepikjnaa
open Go Go.RowKit

/-- A table whose row isn't told to be sorted. -/
def Raw (w : World) (b g n cap : Nat) (lim : Int) (ys : List (KV Int)) : Prop :=
  w.heap[b]? = some (.cells #[.slice (some ⟨g, 0, none⟩) n cap, .int .i64 lim] 82 (0, 0)) ∧ OwnIt w 0 (.slice (some ⟨g, 0, none⟩) n cap) ys ∧ ys.length = n
theorem Raw.ne {w : World} {b g n cap : Nat} {lim : Int} {ys : List (KV Int)} (h : Raw w b g n cap lim ys) : b ≠ g := by
  obtain ⟨h1, ⟨_, h2⟩, _⟩ := h
  rcases h2 with ⟨h3, _⟩ | ⟨g', cap', cur, he, _, hg, _⟩
  · cases h3
  · simp only [Value.slice.injEq, Option.some.injEq, Addr.mk.injEq] at he
    obtain ⟨⟨rfl, _⟩, _⟩ := he
    rintro rfl
    rw [h1] at hg
    simp at hg
theorem Raw.cells {w : World} {b g n cap : Nat} {lim : Int} {ys : List (KV Int)} (h : Raw w b g n cap lim ys) : w.cell? ⟨b, 0, none⟩ = some (.slice (some ⟨g, 0, none⟩) n cap) ∧ w.frozen? ⟨b, 0, none⟩ = false ∧
    (∀ i (hi : i < ys.length), w.cell? ⟨g, i * 2, none⟩ = some (.string ys[i].1) ∧ w.cell? ⟨g, i * 2 + 1, none⟩ = some (.int .i64 ys[i].2)) ∧ ∀ j, w.frozen? ⟨g, j, none⟩ = false := by
  refine ⟨by rw [cell_of_row _ _ _ _ _ _ h.1]; rfl, by simp [World.frozen?, h.1], ?_, ?_⟩
  · intro i hi
    obtain ⟨ao, cap', he, _, hx⟩ := h.2.1.sl
    obtain ⟨g', o, he2, hcell⟩ := hx (by rintro rfl; simp at hi)
    subst he2
    simp only [Value.slice.injEq, Option.some.injEq, Addr.mk.injEq] at he
    obtain ⟨⟨rfl, rfl, _⟩, _⟩ := he
    have := hcell i hi
    rwa [Nat.zero_add] at this
  · intro j
    rcases h.2.1.2 with ⟨h3, _⟩ | ⟨g', cap', cur, he, _, hg, _⟩
    · cases h3
    · simp only [Value.slice.injEq, Option.some.injEq, Addr.mk.injEq] at he
      obtain ⟨⟨rfl, _⟩, _⟩ := he
      simp [World.frozen?, hg]
theorem Raw.set {w : World} {b g n cap : Nat} {lim : Int} {ys : List (KV Int)} (h : Raw w b g n cap lim ys) (i : Nat) (hi : i < ys.length) (x : KV Int) : Raw ((w.setCell ⟨g, i * 2, none⟩ (.string x.1)).setCell ⟨g, i * 2 + 1, none⟩ (.int .i64 x.2)) b g n cap lim (ys.set i x) :=
  ⟨by rw [heap_setCell_other _ ⟨g, _, none⟩ _ _ h.ne, heap_setCell_other _ ⟨g, _, none⟩ _ _ h.ne]; exact h.1, OwnIt.set h.2.1 i hi x, by rw [List.length_set]; exact h.2.2⟩
theorem Raw.up {w w' : World} {b g n cap : Nat} {lim : Int} {ys : List (KV Int)} (h : Raw w b g n cap lim ys) (u : Up w w') : Raw w' b g n cap lim ys :=
  ⟨(u.block b (Array.getElem?_eq_some_iff.1 h.1).1).trans h.1, Touch.row h.2.1 (Touch.of_up u []) (fun k _ => by simp), h.2.2⟩
theorem shift_step {xs : List (KV Int)} {j : Nat} (hj : j < xs.length) (y : KV Int) : (xs.take (j + 1) ++ y :: xs.drop (j + 1)).set (j + 1) xs[j] = xs.take j ++ xs[j] :: xs.drop j := by
  have hl : (xs.take (j + 1)).length = j + 1 := by rw [List.length_take]; omega
  have e := List.drop_eq_getElem_cons hj
  rw [List.set_append_right _ _ (by omega), hl, Nat.sub_self, List.set_cons_zero, List.take_add_one, List.getElem?_eq_getElem hj, List.append_assoc, e]
  rfl
theorem shift_get {xs : List (KV Int)} {j : Nat} (hj : j < xs.length) (y : KV Int) (h : j < (xs.take (j + 1) ++ y :: xs.drop (j + 1)).length) : (xs.take (j + 1) ++ y :: xs.drop (j + 1))[j] = xs[j] := by
  rw [List.getElem_append_left (by rw [List.length_take]; omega), List.getElem_take]

theorem rPut_full (k : ByteArray) (y : Int) (b : Nat) (v : Value) (lim : Int) (xs : List (KV Int)) (w : World) (h : RTab w b v lim xs) (hk : KeyOk k) (hn : xs.length ≤ 4000000000000) (hg : getL k xs = none) (hlim : ¬ (xs.length : Int) < lim) :
    Calls Try.prog 13 #[.pointer (some ⟨b, 0, none⟩), .string k, .int .i64 y] w fun e w' => e = .returned (.bool false) ∧ RDone w b v lim xs w' := by
  have qp := place_any k b v lim xs w h hk (by omega)
  have qh : ∀ {w' : World}, Up w w' → Calls Try.prog 48 #[.pointer (some ⟨b, 0, none⟩), .int .i64 (pl k xs : Int), .string k] w' fun e w'' => e = .returned (.bool (getL k xs).isSome) ∧ w'' = w' := fun u => has_any k b v lim xs _ (h.up u) (by omega)
  rw [hg] at qh
  obtain ⟨ao, cap, rfl⟩ := h.2.1.sl.slice
  have sof : ∀ {w' : World}, Up w w' → w'.cell? ⟨b, 0, none⟩ = some (.slice ao xs.length cap) ∧ w'.cell? ⟨b, 1, none⟩ = some (.int .i64 lim) := fun u => ⟨(h.up u).cells.1, (h.up u).cells.2.1⟩
  have fin : ∀ {w' : World}, Up w w' → RDone w b (.slice ao xs.length cap) lim xs w' := fun u => RDone.same h u
  obtain ⟨N, hN⟩ : ∃ N, xs.length = N := ⟨_, rfl⟩
  rw [hN] at hlim hn
  simp only [hN] at sof fin
  rw [hN]
  have hge : lim ≤ (N : Int) := by omega
  clear h hN hn hg
  go_enter Try.func13, Try.ntmps13
  go_wp2_with (first
    | (go_at_call 47; refine qp.mono ?_; clear qp; rintro e w1 ⟨rfl, u1⟩; obtain ⟨z1, z2⟩ := sof u1)
    | (go_at_call 48; refine (qh u1).mono ?_; clear qh; rintro e w2 ⟨rfl, hw⟩; obtain rfl : w1 = w2 := hw.symm))
  go_quiet (fail)
  go_wp2
  go_ret
  exact ⟨rfl, fin (u1.trans (up_drewN _ _))⟩

set_option maxHeartbeats 4000000 in
set_option maxRecDepth 20000 in
theorem rPut_new (k : ByteArray) (y : Int) (b : Nat) (v : Value) (lim : Int) (xs : List (KV Int)) (w : World) (h : RTab w b v lim xs) (hk : KeyOk k) (hn : xs.length ≤ 4000000000000) (hg : getL k xs = none) (hlim : (xs.length : Int) < lim) :
    Calls Try.prog 13 #[.pointer (some ⟨b, 0, none⟩), .string k, .int .i64 y] w fun e w' => e = .returned (.bool true) ∧ RDone w b v lim (putL k y xs) w' := by
  have qp := place_any k b v lim xs w h hk (by omega)
  have qh : ∀ {w' : World}, Up w w' → Calls Try.prog 48 #[.pointer (some ⟨b, 0, none⟩), .int .i64 (pl k xs : Int), .string k] w' fun e w'' => e = .returned (.bool (getL k xs).isSome) ∧ w'' = w' := fun u => has_any k b v lim xs _ (h.up u) (by omega)
  rw [hg] at qh
  obtain ⟨ao, cap, rfl⟩ := h.2.1.sl.slice
  obtain ⟨P, hP⟩ : ∃ P, pl k xs = P := ⟨_, rfl⟩
  have hPl : P ≤ xs.length := by rw [← hP]; exact pl_le k xs
  have hput : putL k y xs = xs.take P ++ (k, y) :: xs.drop P := by rw [put_none h.2.2.1 hg, hP]
  have sof : ∀ {w' : World}, Up w w' → w'.cell? ⟨b, 0, none⟩ = some (.slice ao xs.length cap) ∧ w'.cell? ⟨b, 1, none⟩ = some (.int .i64 lim) ∧ w'.frozen? ⟨b, 0, none⟩ = false := fun u => ⟨(h.up u).cells.1, (h.up u).cells.2.1, (h.up u).cells.2.2⟩
  -- the appended row in its table
  have hrow : ∀ {w1 w2 : World} {v' : Value}, Up w w1 → OwnIt w2 0 v' (xs ++ [(⟨#[]⟩, 0)]) → w1.grownBy w2 (Value.slice ao xs.length cap).ownBlock → (v'.ownBlock = (Value.slice ao xs.length cap).ownBlock ∨ v'.ownBlock = some w1.heap.size) →
      ∃ g2 c2, v' = .slice (some ⟨g2, 0, none⟩) (xs.length + 1) c2 ∧ w2.cell? ⟨b, 0, none⟩ = some (.slice ao xs.length cap) ∧ w2.frozen? ⟨b, 0, none⟩ = false ∧
        Raw (w2.setCell ⟨b, 0, none⟩ (.slice (some ⟨g2, 0, none⟩) (xs.length + 1) c2)) b g2 (xs.length + 1) c2 lim (xs.take xs.length ++ (⟨#[]⟩, 0) :: xs.drop xs.length) ∧
        Touch w (w2.setCell ⟨b, 0, none⟩ (.slice (some ⟨g2, 0, none⟩) (xs.length + 1) c2)) (b :: ob (.slice ao xs.length cap)) ∧ (g2 ∈ ob (.slice ao xs.length cap) ∨ w.heap.size ≤ g2) := fun {w1 w2 v'} u hr hgr hv => by
    rcases hr.2 with ⟨rfl, h0⟩ | ⟨g2, c2, cur, rfl, hb, hg0, hnc, hcm, hcs, ht⟩
    · simp at h0
    · rw [List.length_append, List.length_singleton] at *
      have t1 : Touch w w2 (b :: ob (.slice ao xs.length cap)) := (Touch.of_up u _).trans (Touch.of_grown hgr (fun k hk => by rw [List.mem_cons]; exact .inr (mem_ob.2 hk))) (fun k hk => .inl hk)
      have hbne := (h.up u).ne
      have t2 : Touch w1 w2 (ob (.slice ao xs.length cap)) := Touch.of_grown hgr (fun k hk => mem_ob.2 hk)
      have hb2 : w2.heap[b]? = some (.cells #[.slice ao xs.length cap, .int .i64 lim] 82 (0, 0)) := (t2.block b (h.up u).lt hbne).trans (h.up u).1
      have hgb : g2 ≠ b := by rintro rfl; rw [hg0] at hb2; simp at hb2
      refine ⟨g2, c2, rfl, by rw [cell_of_row _ _ _ _ _ _ hb2]; rfl, by simp [World.frozen?, hb2], ⟨heap_setCell_same _ _ _ _ _ _ hb2, ?_, by simp⟩, t1.setCell (.inl (by simp)) _ _, ?_⟩
      · rw [List.take_length, List.drop_length]
        exact Touch.row hr ((Touch.refl w2 [b]).setCell (.inl (by simp)) _ _) (fun k hk => by simp [Value.ownBlock] at hk; subst hk; simpa using hgb)
      · rcases hv with e | e
        · exact .inl (mem_ob.2 e.symm)
        · simp [Value.ownBlock] at e
          subst e
          exact .inr u.size
  have fin : ∀ {w1 : World} {g2 c2 : Nat}, Raw w1 b g2 (xs.length + 1) c2 lim (xs.take P ++ (k, y) :: xs.drop P) → Touch w w1 (b :: ob (.slice ao xs.length cap)) → (g2 ∈ ob (.slice ao xs.length cap) ∨ w.heap.size ≤ g2) → RDone w b (.slice ao xs.length cap) lim (putL k y xs) w1 := fun {w1 g2 c2} r t hgg => by
    refine ⟨_, ⟨r.1, ?_, srt_put h.2.2.1 _ _, ?_⟩, t, fun j hj => ?_⟩
    · rw [hput]; exact r.2.1
    · intro x hx
      rw [hput] at hx
      rcases List.mem_append.1 hx with e | e
      · exact h.2.2.2 x (List.mem_of_mem_take e)
      · rcases List.mem_cons.1 e with e | e
        · rw [e]; exact hk
        · exact h.2.2.2 x (List.mem_of_mem_drop e)
    · simp [ob, Value.ownBlock] at hj
      subst hj
      exact hgg
  have hbl := h.lt
  have hown : ∀ {w' : World}, Up w w' → OwnIt w' 0 (.slice ao xs.length cap) xs := fun u => (h.up u).2.1
  obtain ⟨S, hS⟩ : ∃ S, b :: ob (.slice ao xs.length cap) = S := ⟨_, rfl⟩
  have hgS : ∀ {g2 : Nat}, (g2 ∈ ob (.slice ao xs.length cap) ∨ w.heap.size ≤ g2) → (g2 ∈ S ∨ w.heap.size ≤ g2) := fun e => e.elim (fun e => .inl (by rw [← hS]; simp [e])) .inr
  simp only [hS] at hrow fin
  rw [hP] at qp
  simp only [hP] at qh
  clear h hg hP hput
  obtain ⟨N, hN⟩ : ∃ N, xs.length = N := ⟨_, rfl⟩
  have HN : Hid (xs.length = N ∧ P ≤ xs.length ∧ xs.length ≤ 4000000000000) := ⟨hN, hPl, hn⟩
  simp only [hN] at hrow fin sof qp qh hown hgS
  rw [hN] at hlim hn hPl ⊢
  clear hN hS hk
  have hnl : ¬ lim ≤ (N : Int) := by omega
  have hNb : (N : Int) ≤ 4000000000000 := by omega
  have HZ : Hid (∀ {w1 : World}, Up w w1 → OwnIt (w1.alloc (.cells #[.string ⟨#[]⟩, .int .i64 0] 51)) 0 (.slice ao N cap) xs) := fun u => hown (u.trans (Up.alloc _ _))
  clear hown
  go_enter Try.func13, Try.ntmps13
  go_wp2_with (first
    | (go_at_call 47; refine qp.mono ?_; clear qp; rintro e w1 ⟨rfl, u1⟩; obtain ⟨z1, z2, z3⟩ := sof u1)
    | (go_at_call 48; refine (qh u1).mono ?_; clear qh; rintro e w2 ⟨rfl, hw⟩; obtain rfl : w1 = w2 := hw.symm))
  go_quiet (fail)
  clear z1 z2 z3
  replace u1 := u1.trans (up_drewN w1 nq)
  generalize w1.drewN nq = w2 at u1 ⊢
  obtain ⟨z1, z2, z3⟩ := sof u1
  have za := (sof (u1.trans (Up.alloc w2 (.cells #[.string ⟨#[]⟩, .int .i64 0] 51)))).1
  have zr : Box (w2.alloc (.cells #[.string ⟨#[]⟩, .int .i64 0] 51)) w2.heap.size #[.string ⟨#[]⟩, .int .i64 0] := Box.new _ _ _
  go_wp2_with (at_builtin; refine wpList_pushIt _ rfl (.tmp 40) (.tmp 42) rfl 0 (.slice ao N cap) xs (⟨#[]⟩, 0) w2.heap.size rfl rfl (HZ.out u1) zr.c2.1 zr.c2.2 (Nat.zero_le _) ?hl ?_)
  case hl => have := HN.out; omega
  intro v' w3 hr hgr hv
  obtain ⟨g2, c2, rfl, y1, y2, r3, t3, hg2⟩ := hrow (u1.trans (Up.alloc _ _)) hr hgr (by rw [World.size_alloc]; exact hv)
  clear hr hgr hv hrow HZ zr za z1 z2 z3
  have y3 : (w3.setCell ⟨b, 0, none⟩ (.slice (some ⟨g2, 0, none⟩) (N + 1) c2)).cell? ⟨b, 0, none⟩ = some (.slice (some ⟨g2, 0, none⟩) (N + 1) c2) := r3.cells.1
  go_wp2
  clear y1 y2 y3 sof u1
  have H0 : Hid (Raw (w3.setCell ⟨b, 0, none⟩ (.slice (some ⟨g2, 0, none⟩) (N + 1) c2)) b g2 (N + 1) c2 lim (xs.take N ++ (⟨#[]⟩, 0) :: xs.drop N) ∧ Touch w (w3.setCell ⟨b, 0, none⟩ (.slice (some ⟨g2, 0, none⟩) (N + 1) c2)) S) := ⟨r3, t3⟩
  clear r3 t3
  generalize w3.setCell ⟨b, 0, none⟩ (.slice (some ⟨g2, 0, none⟩) (N + 1) c2) = w4 at H0 ⊢
  have HG : Hid (g2 ∈ ob (.slice ao N cap) ∨ w.heap.size ≤ g2) := hg2
  clear hg2
  go_loopg [8] (N - P) (fun g s wr => ∃ i : Nat, ∃ x0 : KV Int, s = .int .i64 (i : Int) ∧ Hid (g = i - P ∧ P ≤ i ∧ i ≤ N ∧ Raw wr b g2 (N + 1) c2 lim (xs.take i ++ x0 :: xs.drop i) ∧ Touch w wr S))
  case atStart => exact ⟨N, (⟨#[]⟩, 0), by simp, rfl, hPl, Nat.le_refl _, H0.out.1, H0.out.2⟩
  case round =>
    obtain ⟨i, x0, rfl, hH⟩ := hrel
    clear H0
    obtain ⟨hgk, hPi, hiN, hR, hT⟩ := hH.out
    have hNx := HN.out
    have hlen : (xs.take i ++ x0 :: xs.drop i).length = N + 1 := by simp only [List.length_append, List.length_take, List.length_cons, List.length_drop]; omega
    obtain ⟨b0, _, hcell, hfz⟩ := hR.cells
    by_cases hlt : P < i
    · obtain ⟨j, rfl⟩ : ∃ j, i = j + 1 := ⟨i - 1, by omega⟩
      have hj : j < xs.length := by omega
      have hc1 := hcell j (by rw [hlen]; omega)
      rw [shift_get hj] at hc1
      obtain ⟨q1, q2⟩ := hc1
      obtain ⟨k3, q3⟩ : ∃ z, wr.cell? ⟨g2, (j + 1) * 2, none⟩ = some z := ⟨_, (hcell (j + 1) (by rw [hlen]; omega)).1⟩
      obtain ⟨k4, q4⟩ : ∃ z, wr.cell? ⟨g2, (j + 1) * 2 + 1, none⟩ = some z := ⟨_, (hcell (j + 1) (by rw [hlen]; omega)).2⟩
      have q5 := hfz ((j + 1) * 2)
      have q6 := hfz ((j + 1) * 2 + 1)
      have hnext : Hid (∀ {w' : World}, Up wr w' → Raw ((w'.setCell ⟨g2, (j + 1) * 2, none⟩ (.string xs[j].1)).setCell ⟨g2, (j + 1) * 2 + 1, none⟩ (.int .i64 xs[j].2)) b g2 (N + 1) c2 lim (xs.take j ++ xs[j] :: xs.drop j) ∧
          Touch w ((w'.setCell ⟨g2, (j + 1) * 2, none⟩ (.string xs[j].1)).setCell ⟨g2, (j + 1) * 2 + 1, none⟩ (.int .i64 xs[j].2)) S) := fun {w'} u => by
        have r := (hR.up u).set (j + 1) (by rw [hlen]; omega) xs[j]
        rw [shift_step hj] at r
        exact ⟨r, ((hT.trans (Touch.of_up u []) (fun k hk => by simp at hk)).setCell (hgS HG.out) _ _).setCell (hgS HG.out) _ _⟩
      obtain ⟨kk, hkk⟩ : ∃ kk, xs[j].1 = kk := ⟨_, rfl⟩
      obtain ⟨zz, hzz⟩ : ∃ zz, xs[j].2 = zz := ⟨_, rfl⟩
      have hnext' : Hid (∀ {w' : World}, Up wr w' → ∃ x1 : KV Int, Raw ((w'.setCell ⟨g2, (j + 1) * 2, none⟩ (.string kk)).setCell ⟨g2, (j + 1) * 2 + 1, none⟩ (.int .i64 zz)) b g2 (N + 1) c2 lim (xs.take j ++ x1 :: xs.drop j) ∧
          Touch w ((w'.setCell ⟨g2, (j + 1) * 2, none⟩ (.string kk)).setCell ⟨g2, (j + 1) * 2 + 1, none⟩ (.int .i64 zz)) S) := fun {w'} u => by rw [← hkk, ← hzz]; exact ⟨xs[j], hnext.out u⟩
      rw [hkk] at q1
      rw [hzz] at q2
      have hPj : (P : Int) < (j : Int) + 1 := by omega
      have hjN : (j : Int) < (N : Int) := by omega
      have HB : Hid (gk = j + 1 - P ∧ P ≤ j + 1 ∧ j + 1 ≤ N ∧ P < j + 1) := ⟨hgk, hPi, hiN, hlt⟩
      clear hnext hkk hzz hcell hfz hR hT hH hgk hPi hiN hlen hj hlt hNx
      go_wp2
      go_region
      go_wp2
      go_roundg (j - P)
      case measure => have := HB.out; omega
      case rel =>
        obtain ⟨x1, r1, r2⟩ := hnext'.out (Up.drew wr)
        have hB := HB.out
        exact ⟨j, x1, by simp, by show _ = _; omega, by omega, by omega, r1, r2⟩
    · obtain rfl : i = P := by omega
      obtain ⟨k3, q3⟩ : ∃ z, wr.cell? ⟨g2, i * 2, none⟩ = some z := ⟨_, (hcell i (by rw [hlen]; omega)).1⟩
      obtain ⟨k4, q4⟩ : ∃ z, wr.cell? ⟨g2, i * 2 + 1, none⟩ = some z := ⟨_, (hcell i (by rw [hlen]; omega)).2⟩
      have q5 := hfz (i * 2)
      have q6 := hfz (i * 2 + 1)
      have hnext : Hid (RDone w b (.slice ao N cap) lim (putL k y xs) ((wr.setCell ⟨g2, i * 2, none⟩ (.string k)).setCell ⟨g2, i * 2 + 1, none⟩ (.int .i64 y))) := by
        have r := hR.set i (by rw [hlen]; omega) (k, y)
        have hl : (xs.take i).length = i := by rw [List.length_take]; omega
        rw [List.set_append_right _ _ (by omega), hl, Nat.sub_self, List.set_cons_zero] at r
        exact fin r ((hT.setCell (hgS HG.out) _ _).setCell (hgS HG.out) _ _) HG.out
      have hPi' : (i : Int) ≤ (N : Int) := by omega
      have hPj : ¬ (i : Int) < (i : Int) := by omega
      clear hcell hfz hR hT hH hgk hPi hiN hlen hlt hNx fin
      go_wp2
      go_ret
      exact ⟨rfl, hnext.out⟩
end Go.Proofs.Ytldmiieepikjnaa
