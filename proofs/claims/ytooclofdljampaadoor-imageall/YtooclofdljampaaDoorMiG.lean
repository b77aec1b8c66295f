/- Merged: ImPut, ImEnc. -/
import Derived.Test.YtooclofdljampaaDoorImNum
import Derived.Test.YtooclofdljampaaDoorMiA
import Derived.Test.YtooclofdljampaaDoorStRow
import Derived.Deep.LoopGhost
import Derived.Deep.DeepCutAuto
import Derived.BigQuiet
import Derived.Deep.QuietTactic
import Derived.Test.YtooclofdljampaaDoorStValid
import Derived.Test.YtooclofdljampaaDoorImSum
import Derived.Test.YtooclofdljampaaDoorMiC
import Derived.Lib.SlBytesConst
set_option linter.unusedVariables false
set_option linter.unusedSimpArgs false
namespace Go.Proofs.YtooclofdljampaaDoor
open Go Go.RowKit

theorem own_up {w w' : World} {base : Nat} {v : Value} {bs : List UInt8} (h : Own w 5 base v bs) (hu : Up w w') : Own w' 5 base v bs := by
  obtain ⟨hl, h⟩ := h
  refine ⟨hl, ?_⟩
  rcases h with h | ⟨g, cap, cs, hv, hb, hh, hc⟩
  · exact .inl h
  · exact .inr ⟨g, cap, cs, hv, hb, by rw [hu.block g (Array.getElem?_eq_some_iff.1 hh).1]; exact hh, hc⟩
theorem own_low {w : World} {base base' : Nat} {v : Value} {bs : List UInt8} (h : Own w 5 base v bs) (hb : base' ≤ base) : Own w 5 base' v bs := by
  obtain ⟨hl, h⟩ := h
  refine ⟨hl, ?_⟩
  rcases h with h | ⟨g, cap, cs, hv, hg, hh⟩
  · exact .inl h
  · exact .inr ⟨g, cap, cs, hv, Nat.le_trans hb hg, hh⟩
theorem own_z {w : World} {base : Nat} {v : Value} {bs : List UInt8} (h : Own w 5 base v bs) : Sl 0 w v bs := (Own.sl h).mono (Nat.zero_le _)
theorem Box.bel {w w' : World} {B k : Nat} {cs : Array Value} (h : Box w k cs) (hb : Below B w w') (hk : k < B) : Box w' k cs := by
  obtain ⟨t, h⟩ := h
  exact ⟨t, by rw [hb.block k hk]; exact h⟩
theorem numsB_snoc (xs : List Nat) (x : Nat) : numsB (xs ++ [x]) = numsB xs ++ bl 8 x := by simp [numsB, List.flatMap_append]
theorem numsB_length : ∀ xs : List Nat, (numsB xs).length = 8 * xs.length
  | [] => rfl
  | x :: xs => by rw [numsB_cons, List.length_append, bl_length, numsB_length xs, List.length_cons]; omega

set_option maxHeartbeats 800000 in
theorem putNumbers_any (base : Nat) (v : Value) (bs : List UInt8) (k : Nat) (xs : List Nat) (w : World) (ho : Own w 5 base v bs) (hl : Hid (bs.length + 8 * xs.length ≤ 1000000)) (hx : Hid (∀ x ∈ xs, x < 2 ^ 64)) (hn : xs.length ≤ 4) (hc : Hid (∀ i (h : i < xs.length), w.cell? ⟨k, i, none⟩ = some (V xs[i]))) (hb : base ≤ w.heap.size) :
    Calls Tryd.prog 43 #[v, .slice (some ⟨k, 0, none⟩) xs.length xs.length] w fun e w' => ∃ v', e = .returned v' ∧ Own w' 5 base v' (bs ++ numsB xs) ∧ Up w w' := by
  obtain ⟨N, hN⟩ : ∃ N, xs.length = N := ⟨_, rfl⟩
  have HN : Hid (xs.length = N) := hN
  have HB : Hid (base ≤ w.heap.size) := hb
  have HO : Hid (Own w 5 base v (bs ++ numsB (xs.take 0)) ∧ Up w w) := ⟨by simpa [numsB] using ho, Up.refl _⟩
  rw [hN] at hn ⊢
  clear hN ho hb
  go_enter Tryd.func43, Tryd.ntmps43
  go_wp2
  go_loopg [0, 9] N (fun g s0 s9 wr => ∃ (i : Nat), i ≤ N ∧ g = N - i ∧ s9 = .int .i64 i ∧ Hid (Own wr 5 base s0 (bs ++ numsB (xs.take i)) ∧ Up w wr))
  case atStart => exact ⟨0, by omega, rfl, rfl, HO⟩
  case round =>
    obtain ⟨i, hi, rfl, rfl, HR⟩ := hrel
    by_cases hlt : i < N
    · have hm : i < xs.length := by rw [HN.out]; exact hlt
      have hc1 := hc.out i hm
      have hx1 : Hid (xs[i] < 2 ^ 64) := hx.out _ (List.getElem_mem hm)
      have ht := List.take_succ_eq_append_getElem hm
      obtain ⟨x, hxk⟩ : ∃ x, xs[i]'hm = x := ⟨_, rfl⟩
      rw [hxk] at hc1 hx1 ht
      have HT : Hid (xs.take (i + 1) = xs.take i ++ [x]) := ht
      have Hlt : Hid (i < N) := hlt
      have d1 : wr.cell? ⟨k, i, none⟩ = some (V x) := by rw [HR.out.2.cell (World.block_lt_of_cell? w _ hc1)]; exact hc1
      have hlen : Hid ((bs ++ numsB (xs.take i)).length ≤ 1000000) := by
        show _ ≤ _
        rw [List.length_append, numsB_length, List.length_take]
        have := hl.out
        rw [HN.out] at this ⊢
        omega
      clear hm hc1 hxk ht
      go_wp2_with fail
      refine (PutU64_any _ _ x _ (own_z HR.out.1) (by have := hlen.out; omega) hx1.out).mono ?_
      rintro e w2 ⟨v2, rfl, o2, u2⟩
      rw [le_blR, List.append_assoc, ← numsB_snoc, ← HT.out] at o2
      have HO2 : Hid (Own w2 5 base v2 (bs ++ numsB (xs.take (i + 1))) ∧ Up w w2) := ⟨own_low o2 (Nat.le_trans HB.out HR.out.2.size), HR.out.2.trans u2⟩
      clear o2 u2 HR
      go_wp2
      go_roundg (N - (i + 1))
      case measure => have := Hlt.out; omega
      case rel => exact ⟨i + 1, Hlt.out, rfl, by go_num, HO2⟩
    · obtain rfl : i = N := by omega
      have hfin := HR.out.1
      rw [List.take_of_length_le (by rw [HN.out]; exact Nat.le_refl _)] at hfin
      go_wp2
      go_ret
      exact ⟨_, rfl, hfin, HR.out.2⟩

set_option maxHeartbeats 1600000 in
theorem entry_flow (S : ByteArray) (g s l p t i c : Nat) (w : World) (hn : Hid ((S.size : Int) ≤ 64)) (hg : Hid (g < 2 ^ 64)) (hs : Hid (s < 2 ^ 64)) (ht : Hid (t < 2 ^ 64)) :
    Calls Tryd.prog 26 #[.agg #[.string S, .int .i64 1, V g, V s, V l, V p, V t, V i, V c]] w fun e w' => ∃ v', e = .returned (.tuple #[v', .nilIface]) ∧ Own w' 5 w.heap.size v' (bl 2 S.size ++ Sb S ++ bl 1 1 ++ numsB [g, s, t]) ∧ Up w w' := by
  have b0 : Box (w.alloc (.cells #[.string S, .int .i64 1, V g, V s, V l, V p, V t, V i, V c] 50)) w.heap.size #[.string S, .int .i64 1, V g, V s, V l, V p, V t, V i, V c] := Box.new _ _ _
  have u0 : Up w (w.alloc (.cells #[.string S, .int .i64 1, V g, V s, V l, V p, V t, V i, V c] 50)) := Up.alloc _ _
  have z0 : (w.alloc (.cells #[.string S, .int .i64 1, V g, V s, V l, V p, V t, V i, V c] 50)).heap.size = w.heap.size + 1 := by simp
  go_enter Tryd.func26, Tryd.ntmps26
  go_upto_region 1 with fail
  generalize w.alloc (.cells #[.string S, .int .i64 1, V g, V s, V l, V p, V t, V i, V c] 50) = w0 at b0 u0 z0 ⊢
  obtain ⟨c0, c1, c2, c3, c4, c5, c6, c7, c8⟩ := b0.c9
  go_wp2_with fail
  refine (PutText_ok _ [] S _ (Sl.nil _ _) (by simp) (by have := hn.out; omega)).mono ?_
  rintro e w1 ⟨v1, rfl, o1, u1⟩
  have b1 := b0.up u1
  have U1 : Up w w1 := u0.trans u1
  have z1 := u1.size
  rw [le_blR, List.nil_append] at o1
  have l1 : Hid ((bl 2 S.size ++ Sb S).length ≤ 66) := by show _ ≤ _; rw [List.length_append, bl_length, Sb_len]; have := hn.out; omega
  clear c0 c1 c2 c3 c4 c5 c6 c7 c8 u1 u0
  obtain ⟨c0, c1, c2, c3, c4, c5, c6, c7, c8⟩ := b1.c9
  go_wp2_with (at_builtin; refine wpList_push _ rfl (.tmp 15) (.tmp 20) rfl w0.heap.size _ _ rfl _ rfl o1 ?hb ?hl 1 ?hc ?_)
  case hb => omega
  case hl => have := l1.out; omega
  case hc => rfl
  intro v2 w2 o2 k2
  have b2 := b1.bel k2 (by omega)
  have U2 : Below w0.heap.size w w2 → True := fun _ => trivial
  have z2 := k2.size
  have B2 : Up w w2 := Below.trans U1 (k2.mono (by omega))
  have o2' := own_low o2 (base' := w.heap.size) (by omega)
  have l2 : Hid ((bl 2 S.size ++ Sb S ++ [1]).length ≤ 67) := by show _ ≤ _; rw [List.length_append]; have := l1.out; simp only [List.length_cons, List.length_nil]; omega
  clear c0 c1 c2 c3 c4 c5 c6 c7 c8 k2 o2 o1 b1 U1 U2
  obtain ⟨c0, c1, c2, c3, c4, c5, c6, c7, c8⟩ := b2.c9
  have b3 : Box (w2.alloc (.cells #[V g, V s, V t] 26)) w2.heap.size #[V g, V s, V t] := Box.new _ _ _
  have u3 : Up w2 (w2.alloc (.cells #[V g, V s, V t] 26)) := Up.alloc _ _
  go_wp2_with fail
  refine (putNumbers_any w.heap.size v2 (bl 2 S.size ++ Sb S ++ [1]) w2.heap.size [g, s, t] _ (own_up o2' u3) ?hl ?hx (by simp) ?hcc (Nat.le_trans B2.size u3.size)).mono ?_
  case hl => show _ + _ ≤ _; have := l2.out; simp only [List.length_cons, List.length_nil]; omega
  case hx =>
    show ∀ x ∈ [g, s, t], x < 2 ^ 64
    intro x hx
    simp only [List.mem_cons, List.not_mem_nil, or_false] at hx
    rcases hx with rfl | rfl | rfl
    · exact hg.out
    · exact hs.out
    · exact ht.out
  case hcc =>
    show ∀ i (h : i < List.length [g, s, t]), _ = _
    intro j hj
    rw [b3.cell j]
    match j, hj with
    | 0, _ => rfl
    | 1, _ => rfl
    | 2, _ => rfl
  rintro e w4 ⟨v4, rfl, o4, u4⟩
  have U4 : Up w w4 := (B2.trans u3).trans u4
  clear c0 c1 c2 c3 c4 c5 c6 c7 c8 b3 u3 b2
  go_wp2
  go_ret2
  exact ⟨_, rfl, o4, U4⟩

set_option maxHeartbeats 1600000 in
theorem entry_grid (S : ByteArray) (g s l p t i c : Nat) (w : World) (hn : Hid ((S.size : Int) ≤ 64)) (hl : Hid (l < 2 ^ 64)) (hp : Hid (p < 2 ^ 64)) (hi : Hid (i < 2 ^ 64)) (hc : Hid (c < 2 ^ 64)) :
    Calls Tryd.prog 26 #[.agg #[.string S, .int .i64 2, V g, V s, V l, V p, V t, V i, V c]] w fun e w' => ∃ v', e = .returned (.tuple #[v', .nilIface]) ∧ Own w' 5 w.heap.size v' (bl 2 S.size ++ Sb S ++ bl 1 2 ++ numsB [l, p, i, c]) ∧ Up w w' := by
  have b0 : Box (w.alloc (.cells #[.string S, .int .i64 2, V g, V s, V l, V p, V t, V i, V c] 50)) w.heap.size #[.string S, .int .i64 2, V g, V s, V l, V p, V t, V i, V c] := Box.new _ _ _
  have u0 : Up w (w.alloc (.cells #[.string S, .int .i64 2, V g, V s, V l, V p, V t, V i, V c] 50)) := Up.alloc _ _
  have z0 : (w.alloc (.cells #[.string S, .int .i64 2, V g, V s, V l, V p, V t, V i, V c] 50)).heap.size = w.heap.size + 1 := by simp
  go_enter Tryd.func26, Tryd.ntmps26
  go_upto_region 1 with fail
  generalize w.alloc (.cells #[.string S, .int .i64 2, V g, V s, V l, V p, V t, V i, V c] 50) = w0 at b0 u0 z0 ⊢
  obtain ⟨c0, c1, c2, c3, c4, c5, c6, c7, c8⟩ := b0.c9
  go_wp2_with fail
  refine (PutText_ok _ [] S _ (Sl.nil _ _) (by simp) (by have := hn.out; omega)).mono ?_
  rintro e w1 ⟨v1, rfl, o1, u1⟩
  have b1 := b0.up u1
  have U1 : Up w w1 := u0.trans u1
  have z1 := u1.size
  rw [le_blR, List.nil_append] at o1
  have l1 : Hid ((bl 2 S.size ++ Sb S).length ≤ 66) := by show _ ≤ _; rw [List.length_append, bl_length, Sb_len]; have := hn.out; omega
  clear c0 c1 c2 c3 c4 c5 c6 c7 c8 u1 u0
  obtain ⟨c0, c1, c2, c3, c4, c5, c6, c7, c8⟩ := b1.c9
  go_wp2_with (at_builtin; refine wpList_push _ rfl (.tmp 15) (.tmp 20) rfl w0.heap.size _ _ rfl _ rfl o1 ?hb ?hl 2 ?hc ?_)
  case hb => omega
  case hl => have := l1.out; omega
  case hc => rfl
  intro v2 w2 o2 k2
  have b2 := b1.bel k2 (by omega)
  have U2 : Below w0.heap.size w w2 → True := fun _ => trivial
  have z2 := k2.size
  have B2 : Up w w2 := Below.trans U1 (k2.mono (by omega))
  have o2' := own_low o2 (base' := w.heap.size) (by omega)
  have l2 : Hid ((bl 2 S.size ++ Sb S ++ [2]).length ≤ 67) := by show _ ≤ _; rw [List.length_append]; have := l1.out; simp only [List.length_cons, List.length_nil]; omega
  clear c0 c1 c2 c3 c4 c5 c6 c7 c8 k2 o2 o1 b1 U1 U2
  obtain ⟨c0, c1, c2, c3, c4, c5, c6, c7, c8⟩ := b2.c9
  have b3 : Box (w2.alloc (.cells #[V l, V p, V i, V c] 26)) w2.heap.size #[V l, V p, V i, V c] := Box.new _ _ _
  have u3 : Up w2 (w2.alloc (.cells #[V l, V p, V i, V c] 26)) := Up.alloc _ _
  go_wp2_with fail
  refine (putNumbers_any w.heap.size v2 (bl 2 S.size ++ Sb S ++ [2]) w2.heap.size [l, p, i, c] _ (own_up o2' u3) ?hl ?hx (by simp) ?hcc (Nat.le_trans B2.size u3.size)).mono ?_
  case hl => show _ + _ ≤ _; have := l2.out; simp only [List.length_cons, List.length_nil]; omega
  case hx =>
    show ∀ x ∈ [l, p, i, c], x < 2 ^ 64
    intro x hx
    simp only [List.mem_cons, List.not_mem_nil, or_false] at hx
    rcases hx with rfl | rfl | rfl | rfl
    · exact hl.out
    · exact hp.out
    · exact hi.out
    · exact hc.out
  case hcc =>
    show ∀ i (h : i < List.length [l, p, i, c]), _ = _
    intro j hj
    rw [b3.cell j]
    match j, hj with
    | 0, _ => rfl
    | 1, _ => rfl
    | 2, _ => rfl
    | 3, _ => rfl
  rintro e w4 ⟨v4, rfl, o4, u4⟩
  have U4 : Up w w4 := (B2.trans u3).trans u4
  clear c0 c1 c2 c3 c4 c5 c6 c7 c8 b3 u3 b2
  go_wp2
  go_ret2
  exact ⟨_, rfl, o4, U4⟩

/-- Encode's entries. -/
theorem entryBytes_any (x : Ent) (w : World) (hk : x.1.size ≤ 64) (hf : FitE x) (h : Ent64 x) :
    Calls Tryd.prog 26 #[EV x] w fun e w' => ∃ v', e = .returned (.tuple #[v', .nilIface]) ∧ Own w' 5 w.heap.size v' (entB x) ∧ Up w w' := by
  obtain ⟨S, ⟨pk, g, s, l, p⟩, ⟨t, i, c⟩⟩ := x
  have hS : Hid ((S.size : Int) ≤ 64) := by show (S.size : Int) ≤ 64; simp only at hk; omega
  obtain ⟨a1, a2, a3, a4, a5, a6, a7⟩ := h
  rcases hf.form with ⟨q, _⟩ | ⟨q, _⟩
  · simp only at q
    subst q
    exact entry_flow S g s l p t i c w hS a1 a2 a5
  · simp only at q
    subst q
    exact entry_grid S g s l p t i c w hS a3 a4 a6 a7
end Go.Proofs.YtooclofdljampaaDoor

set_option linter.unusedVariables false
set_option linter.unusedSimpArgs false
namespace Go.Proofs.YtooclofdljampaaDoor
open Go Go.RowKit

theorem sl_mk (w : World) (cs : List UInt8) (t : TypeId) (fz : Nat × Nat) : Sl w.heap.size (w.alloc (.cells (Bv cs).toArray t fz)) (.slice (some ⟨w.heap.size, 0, none⟩) cs.length cs.length) cs := by
  refine ⟨_, _, rfl, Nat.le_refl _, (by intro h; cases h), fun _ => ⟨_, _, rfl, Nat.le_refl _, ?_⟩⟩
  intro i hi
  rw [cell_of_row _ _ _ _ _ _ (heap_alloc_new _ _)]
  simp [hi]
theorem entB_len {x : Ent} (h : x.1.size ≤ 64) : (entB x).length ≤ 99 := by
  unfold entB numsOf
  rw [List.length_append, List.length_append, List.length_append, bl_length, bl_length, Sb_len, numsB_length]
  split <;> simp only [List.length_cons, List.length_nil] <;> omega
theorem entB_ne (x : Ent) : entB x ≠ [] := by
  intro h
  have := congrArg List.length h
  unfold entB at this
  rw [List.length_append, List.length_append, List.length_append, bl_length] at this
  simp at this
theorem keysB_len : ∀ xs : List Ent, (∀ x ∈ xs, x.1.size ≤ 64) → (keysB xs).length ≤ 99 * xs.length
  | [], _ => by simp [keysB]
  | x :: xs, h => by
    have h1 := entB_len (h x (List.mem_cons_self ..))
    have h2 := keysB_len xs fun y hy => h y (List.mem_cons_of_mem _ hy)
    rw [keysB_cons, List.length_append, List.length_cons]
    omega
theorem keysB_snoc (xs : List Ent) (x : Ent) : keysB (xs ++ [x]) = keysB xs ++ entB x := by simp [keysB, List.flatMap_append]
theorem own_face {w : World} {base : Nat} {v : Value} {bs : List UInt8} (h : Own w 5 base v bs) (hn : bs ≠ []) : ∃ ad cap, v = .slice (some ad) bs.length cap := by
  obtain ⟨ao, cap, rfl, _, _, hx⟩ := h.sl
  obtain ⟨b, o, rfl, _⟩ := hx hn
  exact ⟨_, _, rfl⟩
/-- A state's bytes ahead of the keys. -/
def hedB (l f n : Nat) : List UInt8 := mrk ++ bl 8 l ++ bl 8 f ++ bl 4 n
theorem hedB_len (l f n : Nat) : (hedB l f n).length = 24 := by simp [hedB, mrk, bl_length]
theorem imgB_hed (s : StV) : imgB s = hedB s.lsn s.floor s.keys.length ++ keysB s.keys ++ bl 4 (sumC (hedB s.lsn s.floor s.keys.length ++ keysB s.keys)).toNat := by
  have e : mrk ++ innB s = hedB s.lsn s.floor s.keys.length ++ keysB s.keys := by simp [innB, hedB]
  unfold imgB
  rw [e]

theorem Encode_no (v : Value) (l f : Nat) (xs : List Ent) (w : World) (a : Addr) (hg : Gl w 0 a) (h : SlE w v xs) (hl : xs.length ≤ 4611686018427387903) (hok : okS ⟨l, f, xs⟩ = false) :
    Calls Tryd.prog 13 #[.agg #[V l, V f, v]] w fun e w' => e = .returned (.tuple #[.slice none 0 0, E a]) ∧ Up w w' := by
  have hV := fun w' (u : Up w w') => Valid_any v l f xs w' (h.up u) hl
  rw [hok] at hV
  obtain ⟨ao, cap, rfl⟩ := h.shape
  obtain ⟨N, hN⟩ : ∃ N, xs.length = N := ⟨_, rfl⟩
  rw [hN] at hV ⊢
  clear hN hl hok h
  have b0 : Box (w.alloc (.cells #[V l, V f, .slice ao N cap] 29)) w.heap.size #[V l, V f, .slice ao N cap] := Box.new _ _ _
  have u0 : Up w (w.alloc (.cells #[V l, V f, .slice ao N cap] 29)) := Up.alloc _ _
  go_enter Tryd.func13, Tryd.ntmps13
  go_upto_region 1 with fail
  generalize w.alloc (.cells #[V l, V f, .slice ao N cap] 29) = w0 at b0 u0 ⊢
  obtain ⟨c0, c1, c2⟩ := b0.c3
  go_wp2_with fail
  refine (hV _ u0).mono ?_
  rintro e w1 ⟨rfl, u1⟩
  have U1 := u0.trans u1
  have hc := (hg.up U1).cell
  go_wp2
  go_quiet (fail)
  go_wp2
  go_ret2
  exact ⟨rfl, U1.trans (up_drewN _ _)⟩

set_option maxHeartbeats 3200000 in
theorem Encode_ok (v : Value) (l f : Nat) (xs : List Ent) (w : World) (h : SlE w v xs) (ht : Tb w) (h64 : St64 ⟨l, f, xs⟩) (hok : okS ⟨l, f, xs⟩ = true) :
    Calls Tryd.prog 13 #[.agg #[V l, V f, v]] w fun e w' => ∃ v', e = .returned (.tuple #[v', .nilIface]) ∧ Own w' 5 w.heap.size v' (imgB ⟨l, f, xs⟩) ∧ Up w w' := by
  have hO := (okS_iff _).1 hok
  have hlen : xs.length ≤ 4096 := hO.len
  have hV := fun w' (u : Up w w') => Valid_any v l f xs w' (h.up u) (by omega)
  rw [hok] at hV
  have HI : Hid (imgB ⟨l, f, xs⟩ = hedB l f xs.length ++ keysB xs ++ bl 4 (sumC (hedB l f xs.length ++ keysB xs)).toNat) := imgB_hed _
  have H64 : Hid (l < 2 ^ 64 ∧ f < 2 ^ 64) := ⟨h64.lsn, h64.floor⟩
  have HE : Hid (∀ x ∈ xs, x.1.size ≤ 64 ∧ FitE x ∧ Ent64 x) := fun x hx => ⟨(hO.each x hx).2.1, FitE.of (hO.each x hx).2.1 (hO.each x hx).2.2, h64.ent x hx⟩
  have HKL : Hid (∀ i, i ≤ xs.length → (hedB l f xs.length ++ keysB (xs.take i)).length ≤ 500000) := fun i hi => by
    rw [List.length_append, hedB_len]
    have := keysB_len (xs.take i) fun x hx => (HE.out x (List.mem_of_mem_take hx)).1
    rw [List.length_take] at this
    omega
  have HT : Hid (Tb w) := ht
  obtain ⟨ao, cap, rfl, hc, hn, hx⟩ := h
  have HX : Hid (xs ≠ [] → ∃ b o, ao = some ⟨b, o, none⟩ ∧ EntsAt w b o xs) := hx
  generalize imgB ⟨l, f, xs⟩ = IMG at HI ⊢
  obtain ⟨N, hN⟩ : ∃ N, xs.length = N := ⟨_, rfl⟩
  have HN : Hid (xs.length = N) := hN
  rw [hN] at hV HI HKL hlen hc ⊢
  clear hN hO hx hok h64 ht
  have hl3 : (N : Int) ≤ 4096 := by omega
  have b0 : Box (w.alloc (.cells #[V l, V f, .slice ao N cap] 29)) w.heap.size #[V l, V f, .slice ao N cap] := Box.new _ _ _
  have u0 : Up w (w.alloc (.cells #[V l, V f, .slice ao N cap] 29)) := Up.alloc _ _
  go_enter Tryd.func13, Tryd.ntmps13
  go_upto_region 1 with fail
  generalize w.alloc (.cells #[V l, V f, .slice ao N cap] 29) = w0 at b0 u0 ⊢
  obtain ⟨c0, c1, c2⟩ := b0.c3
  go_wp2_with fail
  refine (hV _ u0).mono ?_
  rintro e w1 ⟨rfl, u1⟩
  have b1 := b0.up u1
  have U1 : Up w w1 := u0.trans u1
  clear c0 c1 c2 b0 u0 u1 hV
  obtain ⟨c0, c1, c2⟩ := b1.c3
  have kc := fun (w : World) (C : Array Value) (n c : Nat) => Lib.run_convert_bytes_const (P := Tryd.prog) w 30 5 C n c Tryd.underlying30 Tryd.underlying5
  have s1 := sl_mk w1 mrk 5 (4, 5)
  have u2 : Up w1 (w1.alloc (.cells (Bv mrk).toArray 5 (4, 5))) := Up.alloc _ _
  have b2 := b1.up u2
  have U2 := U1.trans u2
  have b2' : Box (w1.alloc (.cells #[.int .u8 84, .int .u8 73, .int .u8 48, .int .u8 49] 5 (4, 5))) w.heap.size #[V l, V f, .slice ao N cap] := b2
  obtain ⟨d0, d1, d2⟩ := b2'.c3
  clear b2'
  go_wp2_with fail
  refine (PutU64_any _ mrk l _ (s1.mono (Nat.zero_le _)) (by decide) H64.out.1).mono ?_
  rintro e w3 ⟨v3, rfl, o3, u3⟩
  rw [le_blR] at o3
  have b3 := b2.up u3
  have U3 := U2.trans u3
  clear c0 c1 c2 d0 d1 d2 s1 u2 b1 b2 kc U1 U2 u3
  obtain ⟨c0, c1, c2⟩ := b3.c3
  go_wp2_with fail
  refine (PutU64_any _ _ f _ (own_z o3) (by rw [List.length_append, bl_length, mrk_length]; decide) H64.out.2).mono ?_
  rintro e w4 ⟨v4, rfl, o4, u4⟩
  rw [le_blR] at o4
  have b4 := b3.up u4
  have U4 := U3.trans u4
  clear c0 c1 c2 b3 U3 u4 o3
  obtain ⟨c0, c1, c2⟩ := b4.c3
  go_wp2_with fail
  refine (PutU32_any _ _ N _ (own_z o4) (by rw [List.length_append, List.length_append, bl_length, bl_length, mrk_length]; decide) (by omega)).mono ?_
  rintro e w5 ⟨v5, rfl, o5, u5⟩
  rw [le_blR] at o5
  have b5 := b4.up u5
  have U5 := U4.trans u5
  have z4 := b4.lt
  have o5' := own_low o5 (base' := w.heap.size + 1) (by omega)
  clear c0 c1 c2 b4 U4 u5 o4 o5 z4
  obtain ⟨c0, c1, c2⟩ := b5.c3
  go_wp2
  have HS : Hid (Own w5 5 (w.heap.size + 1) v5 (hedB l f N ++ keysB (xs.take 0)) ∧ Up w w5 ∧ Box w5 w.heap.size #[V l, V f, .slice ao N cap]) := ⟨by simpa [keysB, hedB] using o5', U5, b5⟩
  clear c0 c1 c2 o5' U5 b5
  go_loopg [4, 31] N (fun g s4 s31 wr => ∃ (i : Nat), i ≤ N ∧ g = N - i ∧ s31 = .int .i64 i ∧ Hid (Own wr 5 (w.heap.size + 1) s4 (hedB l f N ++ keysB (xs.take i)) ∧ Up w wr ∧ Box wr w.heap.size #[V l, V f, .slice ao N cap]))
  case atStart => exact ⟨0, by omega, rfl, rfl, HS⟩
  case round =>
    obtain ⟨i, hi, rfl, rfl, HR⟩ := hrel
    by_cases hlt : i < N
    · have hm : i < xs.length := by rw [HN.out]; exact hlt
      obtain ⟨b, o, rfl, ha⟩ := HX.out (by rintro rfl; simp at hm)
      obtain ⟨c0, c1, c2, c3, c4, c5, c6, c7, c8⟩ := (ha.block fun hl => HR.out.2.1.block b hl).at _ hm
      have HF : Hid (xs[i].1.size ≤ 64 ∧ FitE xs[i] ∧ Ent64 xs[i]) := HE.out _ (List.getElem_mem hm)
      have ht := List.take_succ_eq_append_getElem hm
      have HD : Hid (i < N) := hlt
      generalize xs[i] = x at c0 c1 c2 c3 c4 c5 c6 c7 c8 HF ht
      have hcall := fun u => entryBytes_any x u HF.out.1 HF.out.2.1 HF.out.2.2
      have HK : Hid (hedB l f N ++ keysB (xs.take i) ++ entB x = hedB l f N ++ keysB (xs.take (i + 1))) := by show _ = _; rw [ht, keysB_snoc, List.append_assoc]
      have HEL : Hid ((entB x).length ≤ 99 ∧ entB x ≠ []) := ⟨entB_len HF.out.1, entB_ne x⟩
      have HL : Hid ((hedB l f N ++ keysB (xs.take i)).length ≤ 500000) := HKL.out i (by omega)
      clear ht HF
      generalize entB x = EB at hcall HK HEL
      generalize hedB l f N ++ keysB (xs.take i) = BS at HR HK HL
      obtain ⟨S, ⟨pk, pg, ps, pq, pp⟩, lt, li, lc⟩ := x
      simp only [EV] at c0 c1 c2 c3 c4 c5 c6 c7 c8 hcall
      clear ha hm
      have B9 : Box (wr.alloc (.cells #[.string S, .int .i64 pk, V pg, V ps, V pq, V pp, V lt, V li, V lc] 50)) wr.heap.size #[.string S, .int .i64 pk, V pg, V ps, V pq, V pp, V lt, V li, V lc] := Box.new _ _ _
      have U9 : Up wr (wr.alloc (.cells #[.string S, .int .i64 pk, V pg, V ps, V pq, V pp, V lt, V li, V lc] 50)) := Up.alloc _ _
      go_upto_region 9 with fail
      generalize wr.alloc (.cells #[.string S, .int .i64 pk, V pg, V ps, V pq, V pp, V lt, V li, V lc] 50) = W9 at B9 U9 ⊢
      clear c0 c1 c2 c3 c4 c5 c6 c7 c8
      obtain ⟨d0, d1, d2, d3, d4, d5, d6, d7, d8⟩ := B9.c9
      go_wp2_with fail
      refine (hcall _).mono ?_
      rintro e w7 ⟨v7, rfl, o7, u7⟩
      have z7 := W9
      obtain ⟨ad, cp, rfl⟩ := own_face o7 HEL.out.2
      have O4 := own_up HR.out.1 (U9.trans u7)
      have UU := HR.out.2.1.trans (U9.trans u7)
      have BB := HR.out.2.2.up (U9.trans u7)
      have zb := BB.lt
      have s7 := own_z o7
      clear d0 d1 d2 d3 d4 d5 d6 d7 d8 B9 U9 u7 o7 hcall HR z7
      go_wp2_with (at_builtin; refine wpList_append_sl _ rfl (.tmp 43) (.tmp 44) rfl (w.heap.size + 1) 0 _ BS EB rfl ad cp rfl O4 s7 ?hb ?hl ?_)
      case hb => omega
      case hl => have := HL.out; have := HEL.out.1; omega
      intro v8 w8 o8 k8
      rw [HK.out] at o8
      have HS : Hid (Own w8 5 (w.heap.size + 1) v8 (hedB l f N ++ keysB (xs.take (i + 1))) ∧ Up w w8 ∧ Box w8 w.heap.size #[V l, V f, .slice (some ⟨b, o, none⟩) N cap]) := ⟨o8, Below.trans UU (k8.mono (by omega)), BB.bel k8 (by omega)⟩
      clear O4 UU BB zb s7 o8 k8
      go_wp2
      go_roundg (N - (i + 1))
      case measure => have := HD.out; omega
      case rel => exact ⟨i + 1, HD.out, rfl, by go_num, HS⟩
    · obtain rfl : i = N := by omega
      obtain ⟨O1, U1, B1⟩ := HR.out
      have HL := HKL.out i (by omega)
      rw [List.take_of_length_le (by rw [HN.out]; exact Nat.le_refl _)] at O1 HL
      have hS := fun x bs => Sum_any 0 x bs wr (HT.out.up U1)
      have HL' : Hid ((hedB l f i ++ keysB xs).length ≤ 500000) := HL
      clear HL HKL HX HE HR
      generalize hedB l f i ++ keysB xs = BS at O1 HL' hS HI
      have hSc := hS _ _ (own_z O1) (by have := HL'.out; omega)
      go_wp2_with fail
      refine hSc.mono ?_
      rintro e w6 ⟨rfl, rfl⟩
      go_wp2_with fail
      refine (PutU32_any _ BS (sumC BS).toNat _ (own_z O1) (by have := HL'.out; omega) (sumC BS).isLt).mono ?_
      rintro e w7 ⟨v7, rfl, o7, u7⟩
      rw [le_blR, ← HI.out] at o7
      go_wp2
      go_ret2
      exact ⟨_, rfl, own_low o7 (by have := U1.size; omega), U1.trans u7⟩
end Go.Proofs.YtooclofdljampaaDoor
