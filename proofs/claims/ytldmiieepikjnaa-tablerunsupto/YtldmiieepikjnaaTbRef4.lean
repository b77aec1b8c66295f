/- table: the reference's Delete, All and From, and Put in one. Own work. -/
import Derived.Test.YtldmiieepikjnaaTbRef3
set_option linter.unusedVariables false
set_option linter.unusedSimpArgs false
namespace Go.Proofs.Ytldmiieepikjnaa
open Go Go.RowKit

theorem putT_ref {lim : Int} {k : ByteArray} {xs : List (KV Int)} : True := trivial
/-- Put: taken or not, as the program's. -/
theorem rPut_any (k : ByteArray) (y : Int) (b : Nat) (v : Value) (lim : Int) (xs : List (KV Int)) (w : World) (h : RTab w b v lim xs) (hk : KeyOk k) (hn : xs.length ≤ 4000000000000) :
    Calls Try.prog 13 #[.pointer (some ⟨b, 0, none⟩), .string k, .int .i64 y] w fun e w' => e = .returned (.bool ((getL k xs).isSome || decide ((xs.length : Int) < lim))) ∧ RDone w b v lim (if ((getL k xs).isSome || decide ((xs.length : Int) < lim)) then putL k y xs else xs) w' := by
  cases hg : getL k xs with
  | some u => simpa using rPut_found k y u b v lim xs w h hk (by omega) hg
  | none =>
    by_cases hl : (xs.length : Int) < lim
    · simpa [hl] using rPut_new k y b v lim xs w h hk hn hg hl
    · simpa [hl] using rPut_full k y b v lim xs w h hk (by omega) hg hl

theorem del_step {A D : List (KV Int)} {j : Nat} (hj : j < D.length) (y : KV Int) : (A ++ (D.take j ++ y :: D.drop j)).set (A.length + j) D[j] = A ++ (D.take (j + 1) ++ D[j] :: D.drop (j + 1)) := by
  have hl : (D.take j).length = j := by rw [List.length_take]; omega
  have e := List.drop_eq_getElem_cons hj
  rw [List.set_append_right _ _ (by omega), Nat.add_sub_cancel_left, List.set_append_right _ _ (by omega), hl, Nat.sub_self, List.set_cons_zero, List.take_add_one, List.getElem?_eq_getElem hj, List.append_assoc, e]
  rfl
theorem del_get {A D : List (KV Int)} {j : Nat} (hj : j < D.length) (y : KV Int) (h : A.length + j + 1 < (A ++ (D.take j ++ y :: D.drop j)).length) : (A ++ (D.take j ++ y :: D.drop j))[A.length + j + 1] = D[j] := by
  have hl : (D.take j).length = j := by rw [List.length_take]; omega
  rw [List.getElem_append_right (by omega), List.getElem_append_right (by omega)]
  have e1 : A.length + j + 1 - A.length - (D.take j).length = 0 + 1 := by omega
  simp only [e1]
  rw [List.getElem_cons_succ, List.getElem_drop]
  rfl

set_option maxHeartbeats 4000000 in
set_option maxRecDepth 20000 in
theorem rDelete_found (k : ByteArray) (u : Int) (b : Nat) (v : Value) (lim : Int) (xs : List (KV Int)) (w : World) (h : RTab w b v lim xs) (hk : KeyOk k) (hn : xs.length ≤ 4000000000000) (hg : getL k xs = some u) :
    Calls Try.prog 17 #[.pointer (some ⟨b, 0, none⟩), .string k] w fun e w' => e = .returned (.bool true) ∧ RDone w b v lim (delL k xs) w' := by
  have qp := place_any k b v lim xs w h hk (by omega)
  have qh : ∀ {w' : World}, Up w w' → Calls Try.prog 48 #[.pointer (some ⟨b, 0, none⟩), .int .i64 (pl k xs : Int), .string k] w' fun e w'' => e = .returned (.bool (getL k xs).isSome) ∧ w'' = w' := fun u => has_any k b v lim xs _ (h.up u) (by omega)
  rw [hg] at qh
  obtain ⟨hlt, hkk, huu⟩ := getL_lt h.2.2.1 hg
  rcases h.2.1.2 with ⟨rfl, h0⟩ | ⟨g, cap, cur, rfl, hb, hg0, hnc, hcm, hcs, ht⟩
  · omega
  obtain ⟨P, hP⟩ : ∃ P, pl k xs = P := ⟨_, rfl⟩
  have hdel : delL k xs = xs.take P ++ xs.drop (P + 1) := by rw [del_some h.2.2.1 hg, hP]
  have hlt' : P < xs.length := by rw [← hP]; exact hlt
  obtain ⟨A, hA⟩ : ∃ A, xs.take P = A := ⟨_, rfl⟩
  obtain ⟨D, hD⟩ : ∃ D, xs.drop (P + 1) = D := ⟨_, rfl⟩
  obtain ⟨x0, hx0⟩ : ∃ x0, xs[P] = x0 := ⟨_, rfl⟩
  have hxs : xs = A ++ ([] ++ x0 :: D) := by
    rw [← hA, ← hD, ← hx0, List.nil_append, ← List.drop_eq_getElem_cons hlt', List.take_append_drop]
  have hAl : A.length = P := by rw [← hA, List.length_take]; omega
  have hDl : D.length + P + 1 = xs.length := by rw [← hD, List.length_drop]; omega
  have HR : ∀ {w1 : World}, Up w w1 → Raw w1 b g xs.length cap lim (A ++ (D.take 0 ++ x0 :: D.drop 0)) := fun u => ⟨(h.up u).1, by have := (h.up u).2.1; rw [List.take_zero, List.drop_zero, ← hxs]; exact this, by rw [List.take_zero, List.drop_zero, ← hxs]⟩
  have fin : ∀ {w1 : World} {y : KV Int} {M : Nat}, M + 1 = xs.length → Raw w1 b g xs.length cap lim (A ++ (D ++ [y])) → Touch w w1 (b :: ob (.slice (some ⟨g, 0, none⟩) xs.length cap)) →
      RDone w b (.slice (some ⟨g, 0, none⟩) xs.length cap) lim (delL k xs) (w1.setCell ⟨b, 0, none⟩ (.slice (some ⟨g, 0, none⟩) M cap)) := fun {w1 y M} hM r t => by
    have hlen : (A ++ D).length = M := by rw [List.length_append]; omega
    refine ⟨.slice (some ⟨g, 0, none⟩) M cap, ⟨heap_setCell_same _ _ _ _ _ _ r.1, ?_, srt_del h.2.2.1 _, ?_⟩, t.setCell (.inl (by simp)) _ _, fun j hj => .inl (by simpa [ob, Value.ownBlock] using hj)⟩
    · rw [hdel, hA, hD]
      have r2 := Touch.row r.2.1 ((Touch.refl w1 [b]).setCell (k := b) (.inl (by simp)) 0 (.slice (some ⟨g, 0, none⟩) M cap)) (fun j hj => by simp [Value.ownBlock] at hj; subst hj; simpa using r.ne.symm)
      rcases r2.2 with ⟨h3, _⟩ | ⟨g', cap', cur', he, hb', hg', hnc', hcm', hcs', ht'⟩
      · cases h3
      · simp only [Value.slice.injEq, Option.some.injEq, Addr.mk.injEq] at he
        obtain ⟨⟨rfl, _⟩, _, rfl⟩ := he
        refine ⟨by rw [Its_length], .inr ⟨g, cap, cur', by rw [hlen], Nat.zero_le _, hg', ?_, hcm', hcs', ?_⟩⟩
        · rw [hlen]; simp only [List.length_append, List.length_cons, List.length_nil] at hnc' hlen; omega
        · have e : Its (A ++ (D ++ [y])) = Its (A ++ D) ++ It y := by rw [← List.append_assoc, Its_app]; rfl
          rw [e] at ht'
          have hl2 : (Its (A ++ D)).length = (A ++ D).length * 2 := Its_length _
          have := congrArg (List.take ((A ++ D).length * 2)) ht'
          rw [List.take_take, Nat.min_eq_left (by simp only [List.length_append, List.length_cons, List.length_nil]; omega), ← hl2, List.take_left] at this
          rw [← hl2]
          exact this
    · intro x hx
      rw [hdel] at hx
      rcases List.mem_append.1 hx with e | e
      · exact h.2.2.2 x (List.mem_of_mem_take e)
      · exact h.2.2.2 x (List.mem_of_mem_drop e)
  obtain ⟨N, hN⟩ : ∃ N, xs.length = N := ⟨_, rfl⟩
  obtain ⟨M, hM⟩ : ∃ M, M + 1 = N := ⟨N - 1, by omega⟩
  have hMcap : M ≤ cap := by omega
  have hslice : ∀ uu, (Instr.slice 39 (.slice (some ⟨g, 0, none⟩) N cap) none (some (.int .i64 (M : Int))) none).run Try.prog uu = .ok (.slice (some ⟨g, 0, none⟩) M cap) uu := fun uu => by
    obtain ⟨i0, hi, hz0, hz1, hz2⟩ := info_parts Try.infoItem
    have hsz : (sizeOf 51).run Try.prog uu = .ok 2 uu := by simp [sizeOf, typeInfo, hi, hz1]
    have hu : Try.prog.underlying 39 = some (.slice (Try.prog.elem 39)) := by rw [show Try.prog.elem 39 = 51 by kernel_rfl]; exact Try.underlying39
    rw [run_slice_h uu 39 (some ⟨g, 0, none⟩) _ cap hu .i64 _ (by omega) (by omega), show Try.prog.elem 39 = 51 by kernel_rfl, hsz]
    simp [Result.andThen, sliced, Addr.add_lit]
  have hNM : (N : Int) - 1 = (M : Int) := by omega
  obtain ⟨S, hS⟩ : ∃ S, b :: ob (.slice (some ⟨g, 0, none⟩) N cap) = S := ⟨_, rfl⟩
  have hgS : ∀ (w1 : World), g ∈ S ∨ w1.heap.size ≤ g := fun w1 => .inl (by rw [← hS]; simp [ob, Value.ownBlock])
  rw [hP] at qp
  simp only [hP] at qh
  simp only [hN] at HR fin hDl
  simp only [hS] at fin
  rw [hN] at hn ⊢
  have HN : Hid (A.length = P ∧ D.length + P + 1 = N ∧ M + 1 = N) := ⟨hAl, hDl, hM⟩
  have HF : Hid (∀ {w1 : World} {y : KV Int}, Raw w1 b g N cap lim (A ++ (D ++ [y])) → Touch w w1 S → RDone w b (.slice (some ⟨g, 0, none⟩) N cap) lim (delL k xs) (w1.setCell ⟨b, 0, none⟩ (.slice (some ⟨g, 0, none⟩) M cap))) := fun r t => fin hM r t
  have hNb : (N : Int) ≤ 4000000000000 := by omega
  clear h hg hP hdel hA hD hx0 hxs hAl hN hS fin hlt hkk huu hb hg0 hnc hcm hcs ht hk hn hlt' hM hDl
  go_enter Try.func17, Try.ntmps17
  go_wp2_with (first
    | (go_at_call 47; refine qp.mono ?_; clear qp; rintro e w1 ⟨rfl, u1⟩)
    | (go_at_call 48; refine (qh u1).mono ?_; clear qh; rintro e w2 ⟨rfl, hw⟩; obtain rfl : w1 = w2 := hw.symm))
  have H0 : Hid (Raw w1 b g N cap lim (A ++ (D.take 0 ++ x0 :: D.drop 0)) ∧ Touch w w1 S) := ⟨HR u1, Touch.of_up u1 S⟩
  clear HR u1
  go_loopg [6] D.length (fun gk s wr => ∃ i : Nat, ∃ y0 : KV Int, s = .int .i64 (i : Int) ∧ Hid (P ≤ i ∧ gk + (i - P) = D.length ∧ Raw wr b g N cap lim (A ++ (D.take (i - P) ++ y0 :: D.drop (i - P))) ∧ Touch w wr S))
  case atStart => exact ⟨P, x0, rfl, Nat.le_refl _, by omega, by rw [Nat.sub_self]; exact H0.out.1, H0.out.2⟩
  case round =>
    obtain ⟨i, y0, rfl, hH⟩ := hrel
    clear H0
    obtain ⟨hPi, hgk, hR, hT⟩ := hH.out
    obtain ⟨hAl, hDl, hM⟩ := HN.out
    have hlen : (A ++ (D.take (i - P) ++ y0 :: D.drop (i - P))).length = N := hR.2.2
    obtain ⟨b0, bf, hcell, hfz⟩ := hR.cells
    have hiM : (i : Int) + 1 ≤ (N : Int) := by omega
    by_cases hlt : i + 1 < N
    · obtain ⟨j, hj⟩ : ∃ j, i - P = j := ⟨_, rfl⟩
      have hij : i = A.length + j := by omega
      have hjD : j < D.length := by omega
      rw [hj] at hR hlen hgk
      simp only [hj] at hcell
      have hc1 := hcell (A.length + j + 1) (by rw [hlen]; omega)
      rw [del_get hjD] at hc1
      obtain ⟨q1, q2⟩ := hc1
      rw [← hij] at q1 q2
      obtain ⟨k3, q3⟩ : ∃ z, wr.cell? ⟨g, i * 2, none⟩ = some z := ⟨_, (hcell i (by rw [hlen]; omega)).1⟩
      obtain ⟨k4, q4⟩ : ∃ z, wr.cell? ⟨g, i * 2 + 1, none⟩ = some z := ⟨_, (hcell i (by rw [hlen]; omega)).2⟩
      have q5 := hfz (i * 2)
      have q6 := hfz (i * 2 + 1)
      obtain ⟨kk, hkk⟩ : ∃ kk, D[j].1 = kk := ⟨_, rfl⟩
      obtain ⟨zz, hzz⟩ : ∃ zz, D[j].2 = zz := ⟨_, rfl⟩
      have hnext : Hid (∀ {w' : World}, Up wr w' → ∃ x1 : KV Int, Raw ((w'.setCell ⟨g, i * 2, none⟩ (.string kk)).setCell ⟨g, i * 2 + 1, none⟩ (.int .i64 zz)) b g N cap lim (A ++ (D.take (i + 1 - P) ++ x1 :: D.drop (i + 1 - P))) ∧
          Touch w ((w'.setCell ⟨g, i * 2, none⟩ (.string kk)).setCell ⟨g, i * 2 + 1, none⟩ (.int .i64 zz)) S) := fun {w'} uu => by
        have r := (hR.up uu).set i (by rw [hlen]; omega) D[j]
        rw [hij, del_step hjD] at r
        rw [hkk, hzz, ← hij] at r
        rw [show i + 1 - P = j + 1 by omega]
        exact ⟨D[j], r, ((hT.trans (Touch.of_up uu []) (fun k hk => by simp at hk)).setCell (hgS w) _ _).setCell (hgS w) _ _⟩
      rw [hkk] at q1
      rw [hzz] at q2
      have hlt' : (i : Int) + 1 < (N : Int) := by omega
      have HB : Hid (P ≤ i ∧ gk + (i - P) = D.length ∧ i - P < D.length) := ⟨hPi, by omega, by omega⟩
      clear hkk hzz hcell hfz hR hT hH hgk hPi hlen hjD hlt hij hj hAl hDl hM
      go_wp2
      go_region
      go_wp2
      go_roundg (gk - 1)
      case measure => have := HB.out; omega
      case rel =>
        obtain ⟨x1, r1, r2⟩ := hnext.out (Up.drew wr)
        have hB := HB.out
        exact ⟨i + 1, x1, by simp, by omega, by omega, r1, r2⟩
    · have hfin : Hid (RDone w b (.slice (some ⟨g, 0, none⟩) N cap) lim (delL k xs) (wr.drew.setCell ⟨b, 0, none⟩ (.slice (some ⟨g, 0, none⟩) M cap))) := by
        have e : i - P = D.length := by omega
        rw [e, List.take_length, List.drop_length] at hR
        exact HF.out (hR.up (Up.drew wr)) hT.drew
      have hnl : ¬ ((i : Int) + 1 < (N : Int)) := by omega
      clear hcell hfz hR hT hH hgk hPi hlen hlt hAl hDl hM HF
      go_wp2
      go_region
      go_wp2
      go_ret
      exact ⟨rfl, hfin.out⟩
end Go.Proofs.Ytldmiieepikjnaa
