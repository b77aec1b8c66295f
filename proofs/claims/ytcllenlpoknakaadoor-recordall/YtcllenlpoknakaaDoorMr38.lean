/- Merged: RcAll. -/
import Derived.Test.YtcllenlpoknakaaDoorMr35
import Derived.Test.YtcllenlpoknakaaDoorMr37
import Derived.Test.YtcllenlpoknakaaDoorMr29
set_option linter.unusedVariables false
set_option linter.unusedSimpArgs false
namespace Go.Proofs.YtcllenlpoknakaaDoor
open Go Go.RowKit

abbrev RKnA (w : World) (ad : Nat → Addr) : Prop := ErrSet allErrs errTxt w ad
theorem rkn_all {w : World} {ad : Nat → Addr} (h : RKnA w ad) : RKn w ad := ⟨fun g hg => h g (rec_sub g hg)⟩
set_option maxHeartbeats 800000 in
theorem qOf_Arg (w : World) (ad : Nat → Addr) (h : RKnA w ad) :
    Calls Tryd.prog 40 #[E (ad 0)] w fun e w' => e = .returned (.int .i64 1) ∧ w' = w := by
  have cArg := (h 0 (by decide)).1.cell
  have sArg := eq_same (ad 0)
  clear h
  generalize ad 0 = aArg at *
  go_enter Tryd.func40, Tryd.ntmps40
  go_wp2
  go_ret
  exact ⟨rfl, rfl⟩
theorem qIs_enc (r : RecV) (w : World) (ad : Nat → Addr) (h : RKnA w ad) :
    Calls Tryd.prog 19 #[encErr (ad 0) r, .int .i64 (qencF r : Nat)] w fun e w' => e = .returned (.bool true) ∧ w' = w := by
  unfold encErr qencF
  split
  · exact Is_of _ 0 0 w (Of_none w)
  · exact Is_of _ 1 1 w (qOf_Arg w ad h)
theorem qIs_short (w : World) (ad : Nat → Addr) (h : RKnA w ad) :
    Calls Tryd.prog 19 #[E (ad 1), .int .i64 2] w fun e w' => e = .returned (.bool true) ∧ w' = w := Is_of _ 2 2 w (Of_Short errTxt w ad h errTxt_unlike)
theorem qIs_form (w : World) (ad : Nat → Addr) (h : RKnA w ad) :
    Calls Tryd.prog 19 #[E (ad 2), .int .i64 3] w fun e w' => e = .returned (.bool true) ∧ w' = w := Is_of _ 3 3 w (Of_Form errTxt w ad h errTxt_unlike)
theorem qIs_none (w : World) :
    Calls Tryd.prog 19 #[.nilIface, .int .i64 0] w fun e w' => e = .returned (.bool true) ∧ w' = w := Is_of _ 0 0 w (Of_none w)

/-- An Op as a value. -/
abbrev OpR (q k : Int) (f : Nat) (S : ByteArray) (pk : Int) (g s l p t i c : Nat) (vB : Value) : Value := .agg #[.int .i64 q, .int .i64 k, V f, .string S, .int .i64 pk, V g, V s, V l, V p, V t, V i, V c, vB]
abbrev OpC (q k : Int) (f : Nat) (S : ByteArray) (pk : Int) (g s l p t i c : Nat) (vB : Value) : Array Value := #[.int .i64 q, .int .i64 k, V f, .string S, .int .i64 pk, V g, V s, V l, V p, V t, V i, V c, vB]

theorem qplay0 (q k : Int) (f : Nat) (S : ByteArray) (pk : Int) (g s l p t i c : Nat) (vB : Value) (w : World) (hB : ∃ a n c, vB = .slice a n c) (h1 : ¬ q = 1) (h2 : ¬ q = 2) (h3 : ¬ q = 3) :
    Calls Tryd.prog 11 #[OpR q k f S pk g s l p t i c vB] w fun e w' => e = .returned (.bool true) ∧ Up w w' := by
  obtain ⟨a, n, c', rfl⟩ := hB
  go_enter Tryd.func11, Tryd.ntmps11
  go_wp2
  go_ret
  exact ⟨rfl, Up.alloc _ _⟩
set_option maxHeartbeats 1600000 in
theorem qplay1 (k : Int) (f : Nat) (S : ByteArray) (pk : Int) (g s l p t i c : Nat) (vB : Value) (w : World) (hB : ∃ a n c, vB = .slice a n c) (o : Bool)
    (hV : ∀ w, Calls Tryd.prog 13 #[RcV k f S pk g s l p t i c] w fun e w' => e = .returned (.bool o) ∧ Up w w')
    (hQ : ∀ w, Calls Tryd.prog 17 #[RcV k f S pk g s l p t i c] w fun e w' => e = .returned (.bool o) ∧ Up w w') :
    Calls Tryd.prog 11 #[OpR 1 k f S pk g s l p t i c vB] w fun e w' => e = .returned (.bool true) ∧ Up w w' := by
  obtain ⟨a, n, c', rfl⟩ := hB
  have b0 : Box (w.alloc (.cells (OpC 1 k f S pk g s l p t i c (.slice a n c')) 35)) w.heap.size (OpC 1 k f S pk g s l p t i c (.slice a n c')) := Box.new _ _ _
  cases o
  all_goals
    go_enter Tryd.func11, Tryd.ntmps11
    go_wp2_with fail
    refine (hV _).mono ?_
    rintro e w1 ⟨rfl, u1⟩
    have b1 := b0.up u1
    have U1 := (Up.alloc w (.cells (OpC 1 k f S pk g s l p t i c (.slice a n c')) 35)).trans u1
    clear u1
    obtain ⟨c0, c1, c2, c3, c4, c5, c6, c7, c8, c9, c10, c11, c12⟩ := b1.c13
    go_wp2_with fail
    refine (hQ _).mono ?_
    rintro e w2 ⟨rfl, u2⟩
    go_wp2
    go_ret
    exact ⟨rfl, U1.trans u2⟩
set_option maxRecDepth 20000 in
set_option maxHeartbeats 1600000 in
theorem qplay2 (k : Int) (f : Nat) (S : ByteArray) (pk : Int) (g s l p t i c : Nat) (vB : Value) (w : World) (ad : Nat → Addr) (hk : RKnA w ad) (hB : ∃ a n c, vB = .slice a n c) (er : Value) (fq : Nat) (bs : List UInt8) (hl : bs.length ≤ 99)
    (hE : ∀ w, RKnA w ad → Calls Tryd.prog 12 #[RcV k f S pk g s l p t i c] w fun e w' => ∃ v', e = .returned (.tuple #[v', er]) ∧ Own w' 5 w.heap.size v' bs ∧ Up w w')
    (hQ : ∀ w, Calls Tryd.prog 18 #[RcV k f S pk g s l p t i c] w fun e w' => ∃ v', e = .returned (.tuple #[v', .int .i64 (fq : Int)]) ∧ Own w' 5 w.heap.size v' bs ∧ Up w w')
    (hI : ∀ w, RKnA w ad → Calls Tryd.prog 19 #[er, .int .i64 (fq : Int)] w fun e w' => e = .returned (.bool true) ∧ w' = w) :
    Calls Tryd.prog 11 #[OpR 2 k f S pk g s l p t i c vB] w fun e w' => e = .returned (.bool true) ∧ Up w w' := by
  obtain ⟨a, n, c', rfl⟩ := hB
  have HL : Hid (bs.length ≤ 99) := hl
  clear hl
  have b0 : Box (w.alloc (.cells (OpC 2 k f S pk g s l p t i c (.slice a n c')) 35)) w.heap.size (OpC 2 k f S pk g s l p t i c (.slice a n c')) := Box.new _ _ _
  have u0 : Up w (w.alloc (.cells (OpC 2 k f S pk g s l p t i c (.slice a n c')) 35)) := Up.alloc _ _
  go_enter Tryd.func11, Tryd.ntmps11
  go_wp2_with fail
  refine (hE _ (hk.up u0)).mono ?_
  rintro e w1 ⟨v1, rfl, o1, u1⟩
  have b1 := b0.up u1
  have U1 := u0.trans u1
  have s1 := own_sl0 o1
  clear u1 u0 b0 o1 hE
  obtain ⟨c0, c1, c2, c3, c4, c5, c6, c7, c8, c9, c10, c11, c12⟩ := b1.c13
  go_wp2_with fail
  refine (hQ _).mono ?_
  rintro e w2 ⟨v2, rfl, o2, u2⟩
  have U2 := U1.trans u2
  have s2 := own_sl0 o2
  replace s1 := s1.up u2
  clear u2 U1 b1 o2 hQ c0 c1 c2 c3 c4 c5 c6 c7 c8 c9 c10 c11 c12
  have hsame := rsame_any 0 0 _ _ bs bs w2 s1 s2 (by have := HL.out; omega) (by have := HL.out; omega)
  rw [decide_eq_true rfl] at hsame
  obtain ⟨a1, q1, rfl, _⟩ := id s1
  obtain ⟨a2, q2, rfl, _⟩ := id s2
  obtain ⟨M, hM⟩ : ∃ M, bs.length = M := ⟨_, rfl⟩
  rw [hM] at hsame ⊢
  have hi := hI w2 (hk.up U2)
  clear s1 s2 hM hk hI
  go_wp2_with fail
  refine hi.mono ?_
  rintro e w3 ⟨rfl, rfl⟩
  clear hi
  go_wp2_with fail
  refine hsame.mono ?_
  rintro e w4 ⟨rfl, h4⟩
  have U4 := U2.trans (drewR_up h4)
  clear hsame h4 U2
  go_wp2
  go_ret
  exact ⟨rfl, U4⟩



set_option maxRecDepth 20000 in
set_option maxHeartbeats 3200000 in
theorem qplay3_short (k : Int) (f : Nat) (S : ByteArray) (pk : Int) (g s l p t i c : Nat) (vB : Value) (bs : List UInt8) (w : World) (ad : Nat → Addr) (hk : RKnA w ad) (hB : Sl 0 w vB bs) (hl : bs.length ≤ 140737488351232)
    (hD : ∀ v w, RKnA w ad → Sl 0 w v bs → Calls Tryd.prog 14 #[v] w fun e w' => e = .returned (.tuple #[.agg Zs, E (ad 1)]) ∧ Up w w')
    (hQ : ∀ v w, Sl 0 w v bs → Calls Tryd.prog 20 #[v] w fun e w' => e = .returned (.tuple #[.agg Zs, .int .i64 2]) ∧ Up w w') :
    Calls Tryd.prog 11 #[OpR 3 k f S pk g s l p t i c vB] w fun e w' => e = .returned (.bool true) ∧ Up w w' := by
  have HL : Hid (bs.length ≤ 140737488351232) := hl
  clear hl
  obtain ⟨a, c', rfl, _⟩ := id hB
  obtain ⟨N, hN⟩ : ∃ N, bs.length = N := ⟨_, rfl⟩
  have HN : Hid (bs.length = N) := hN
  rw [hN] at hB ⊢
  clear hN
  have b0 : Box (w.alloc (.cells (OpC 3 k f S pk g s l p t i c (.slice a N c')) 35)) w.heap.size (OpC 3 k f S pk g s l p t i c (.slice a N c')) := Box.new _ _ _
  have u0 : Up w (w.alloc (.cells (OpC 3 k f S pk g s l p t i c (.slice a N c')) 35)) := Up.alloc _ _
  obtain ⟨w1, hw1⟩ : ∃ w1, w.alloc (.cells (OpC 3 k f S pk g s l p t i c (.slice a N c')) 35) = w1 := ⟨_, rfl⟩
  rw [hw1] at b0 u0
  have HB : Hid (Sl 0 w (.slice a N c') bs) := hB
  have zb := b0.lt
  obtain ⟨c0, c1, c2, c3, c4, c5, c6, c7, c8, c9, c10, c11, c12⟩ := b0.c13
  clear hB
  go_enter Tryd.func11, Tryd.ntmps11
  go_upto_region 10 with fail
  (try simp only [hw1])
  clear hw1
  go_wp2_with (at_builtin; refine wpList_bytesR_any _ rfl (.tmp 49) (.tmp 51) rfl w1.heap.size 0 _ _ [] bs rfl rfl (own_none w1) ((HB.out.up u0).up (Up.alloc w1 (.cells #[] 5))) (by simp) (by have := HL.out; simp; omega) ?_)
  intro v2 w2 o2 g2
  have B2 : Up w1 w2 := grownR_up (Up.alloc _ _) (own_none w1) (Nat.le_refl _) g2
  have b2 := b0.up B2
  have U2 := u0.trans B2
  clear c0 c1 c2 c3 c4 c5 c6 c7 c8 c9 c10 c11 c12 b0 zb g2 B2 u0
  obtain ⟨c0, c1, c2, c3, c4, c5, c6, c7, c8, c9, c10, c11, c12⟩ := b2.c13
  go_wp2_with fail
  refine (hD v2 w2 (hk.up U2) (own_sl0 o2)).mono ?_
  rintro e w3 ⟨rfl, u3⟩
  have b3 := b2.up u3
  have U3 := U2.trans u3
  have z3 := b3.lt
  clear c0 c1 c2 c3 c4 c5 c6 c7 c8 c9 c10 c11 c12 o2 u3 U2 b2 hD
  obtain ⟨c0, c1, c2, c3, c4, c5, c6, c7, c8, c9, c10, c11, c12⟩ := b3.c13
  have bq : Box (w3.alloc (.cells Zs 32)) w3.heap.size Zs := Box.new _ _ _
  have uq : Up w3 (w3.alloc (.cells Zs 32)) := Up.alloc _ _
  have kQ := hQ _ _ ((HB.out.up U3).up uq)
  go_wp2_with fail
  refine kQ.mono ?_
  rintro e w4 ⟨rfl, u4⟩
  have b4 := bq.up u4
  have U4 := (U3.trans uq).trans u4
  have z4 := b4.lt
  clear c0 c1 c2 c3 c4 c5 c6 c7 c8 c9 c10 c11 c12 kQ hQ bq uq b3 U3 u4 z3
  obtain ⟨c0, c1, c2, c3, c4, c5, c6, c7, c8, c9, c10⟩ := b4.c11
  have hI := qIs_short (w4.alloc (.cells Zs 32)) ad (hk.up (U4.trans (Up.alloc _ _)))
  go_wp2_with fail
  refine hI.mono ?_
  rintro e w5 ⟨rfl, e5⟩
  subst e5
  clear hI hk
  have hr := zero_eq
  go_wp2
  go_ret
  exact ⟨rfl, U4.trans (Up.alloc _ _)⟩

set_option maxRecDepth 20000 in
set_option maxHeartbeats 3200000 in
theorem qplay3_form (k : Int) (f : Nat) (S : ByteArray) (pk : Int) (g s l p t i c : Nat) (vB : Value) (bs : List UInt8) (w : World) (ad : Nat → Addr) (hk : RKnA w ad) (hB : Sl 0 w vB bs) (hl : bs.length ≤ 140737488351232)
    (hD : ∀ v w, RKnA w ad → Sl 0 w v bs → Calls Tryd.prog 14 #[v] w fun e w' => e = .returned (.tuple #[.agg Zs, E (ad 2)]) ∧ Up w w')
    (hQ : ∀ v w, Sl 0 w v bs → Calls Tryd.prog 20 #[v] w fun e w' => e = .returned (.tuple #[.agg Zs, .int .i64 3]) ∧ Up w w') :
    Calls Tryd.prog 11 #[OpR 3 k f S pk g s l p t i c vB] w fun e w' => e = .returned (.bool true) ∧ Up w w' := by
  have HL : Hid (bs.length ≤ 140737488351232) := hl
  clear hl
  obtain ⟨a, c', rfl, _⟩ := id hB
  obtain ⟨N, hN⟩ : ∃ N, bs.length = N := ⟨_, rfl⟩
  have HN : Hid (bs.length = N) := hN
  rw [hN] at hB ⊢
  clear hN
  have b0 : Box (w.alloc (.cells (OpC 3 k f S pk g s l p t i c (.slice a N c')) 35)) w.heap.size (OpC 3 k f S pk g s l p t i c (.slice a N c')) := Box.new _ _ _
  have u0 : Up w (w.alloc (.cells (OpC 3 k f S pk g s l p t i c (.slice a N c')) 35)) := Up.alloc _ _
  obtain ⟨w1, hw1⟩ : ∃ w1, w.alloc (.cells (OpC 3 k f S pk g s l p t i c (.slice a N c')) 35) = w1 := ⟨_, rfl⟩
  rw [hw1] at b0 u0
  have HB : Hid (Sl 0 w (.slice a N c') bs) := hB
  have zb := b0.lt
  obtain ⟨c0, c1, c2, c3, c4, c5, c6, c7, c8, c9, c10, c11, c12⟩ := b0.c13
  clear hB
  go_enter Tryd.func11, Tryd.ntmps11
  go_upto_region 10 with fail
  (try simp only [hw1])
  clear hw1
  go_wp2_with (at_builtin; refine wpList_bytesR_any _ rfl (.tmp 49) (.tmp 51) rfl w1.heap.size 0 _ _ [] bs rfl rfl (own_none w1) ((HB.out.up u0).up (Up.alloc w1 (.cells #[] 5))) (by simp) (by have := HL.out; simp; omega) ?_)
  intro v2 w2 o2 g2
  have B2 : Up w1 w2 := grownR_up (Up.alloc _ _) (own_none w1) (Nat.le_refl _) g2
  have b2 := b0.up B2
  have U2 := u0.trans B2
  clear c0 c1 c2 c3 c4 c5 c6 c7 c8 c9 c10 c11 c12 b0 zb g2 B2 u0
  obtain ⟨c0, c1, c2, c3, c4, c5, c6, c7, c8, c9, c10, c11, c12⟩ := b2.c13
  go_wp2_with fail
  refine (hD v2 w2 (hk.up U2) (own_sl0 o2)).mono ?_
  rintro e w3 ⟨rfl, u3⟩
  have b3 := b2.up u3
  have U3 := U2.trans u3
  have z3 := b3.lt
  clear c0 c1 c2 c3 c4 c5 c6 c7 c8 c9 c10 c11 c12 o2 u3 U2 b2 hD
  obtain ⟨c0, c1, c2, c3, c4, c5, c6, c7, c8, c9, c10, c11, c12⟩ := b3.c13
  have bq : Box (w3.alloc (.cells Zs 32)) w3.heap.size Zs := Box.new _ _ _
  have uq : Up w3 (w3.alloc (.cells Zs 32)) := Up.alloc _ _
  have kQ := hQ _ _ ((HB.out.up U3).up uq)
  go_wp2_with fail
  refine kQ.mono ?_
  rintro e w4 ⟨rfl, u4⟩
  have b4 := bq.up u4
  have U4 := (U3.trans uq).trans u4
  have z4 := b4.lt
  clear c0 c1 c2 c3 c4 c5 c6 c7 c8 c9 c10 c11 c12 kQ hQ bq uq b3 U3 u4 z3
  obtain ⟨c0, c1, c2, c3, c4, c5, c6, c7, c8, c9, c10⟩ := b4.c11
  have hI := qIs_form (w4.alloc (.cells Zs 32)) ad (hk.up (U4.trans (Up.alloc _ _)))
  go_wp2_with fail
  refine hI.mono ?_
  rintro e w5 ⟨rfl, e5⟩
  subst e5
  clear hI hk
  have hr := zero_eq
  go_wp2
  go_ret
  exact ⟨rfl, U4.trans (Up.alloc _ _)⟩

set_option maxRecDepth 20000 in
set_option maxHeartbeats 3200000 in
theorem qplay3_ok (k : Int) (f : Nat) (S : ByteArray) (pk : Int) (g s l p t i c : Nat) (vB : Value) (bs : List UInt8) (w : World) (ad : Nat → Addr) (hk : RKnA w ad) (hB : Sl 0 w vB bs) (hl : bs.length ≤ 140737488351232) (k2 : Int) (f2 : Nat) (S2 : ByteArray) (pk2 : Int) (g2' s2' l2' p2' t2' i2' c2' : Nat)
    (hD : ∀ v w, RKnA w ad → Sl 0 w v bs → Calls Tryd.prog 14 #[v] w fun e w' => e = .returned (.tuple #[.agg #[.int .i64 k2, V f2, .string S2, .int .i64 pk2, V g2', V s2', V l2', V p2', V t2', V i2', V c2'], .nilIface]) ∧ Up w w')
    (hQ : ∀ v w, Sl 0 w v bs → Calls Tryd.prog 20 #[v] w fun e w' => e = .returned (.tuple #[.agg #[.int .i64 k2, V f2, .string S2, .int .i64 pk2, V g2', V s2', V l2', V p2', V t2', V i2', V c2'], .int .i64 0]) ∧ Up w w') :
    Calls Tryd.prog 11 #[OpR 3 k f S pk g s l p t i c vB] w fun e w' => e = .returned (.bool true) ∧ Up w w' := by
  have HL : Hid (bs.length ≤ 140737488351232) := hl
  clear hl
  obtain ⟨a, c', rfl, _⟩ := id hB
  obtain ⟨N, hN⟩ : ∃ N, bs.length = N := ⟨_, rfl⟩
  have HN : Hid (bs.length = N) := hN
  rw [hN] at hB ⊢
  clear hN
  have b0 : Box (w.alloc (.cells (OpC 3 k f S pk g s l p t i c (.slice a N c')) 35)) w.heap.size (OpC 3 k f S pk g s l p t i c (.slice a N c')) := Box.new _ _ _
  have u0 : Up w (w.alloc (.cells (OpC 3 k f S pk g s l p t i c (.slice a N c')) 35)) := Up.alloc _ _
  obtain ⟨w1, hw1⟩ : ∃ w1, w.alloc (.cells (OpC 3 k f S pk g s l p t i c (.slice a N c')) 35) = w1 := ⟨_, rfl⟩
  rw [hw1] at b0 u0
  have HB : Hid (Sl 0 w (.slice a N c') bs) := hB
  have zb := b0.lt
  obtain ⟨c0, c1, c2, c3, c4, c5, c6, c7, c8, c9, c10, c11, c12⟩ := b0.c13
  clear hB
  go_enter Tryd.func11, Tryd.ntmps11
  go_upto_region 10 with fail
  (try simp only [hw1])
  clear hw1
  go_wp2_with (at_builtin; refine wpList_bytesR_any _ rfl (.tmp 49) (.tmp 51) rfl w1.heap.size 0 _ _ [] bs rfl rfl (own_none w1) ((HB.out.up u0).up (Up.alloc w1 (.cells #[] 5))) (by simp) (by have := HL.out; simp; omega) ?_)
  intro v2 w2 o2 g2
  have B2 : Up w1 w2 := grownR_up (Up.alloc _ _) (own_none w1) (Nat.le_refl _) g2
  have b2 := b0.up B2
  have U2 := u0.trans B2
  clear c0 c1 c2 c3 c4 c5 c6 c7 c8 c9 c10 c11 c12 b0 zb g2 B2 u0
  obtain ⟨c0, c1, c2, c3, c4, c5, c6, c7, c8, c9, c10, c11, c12⟩ := b2.c13
  go_wp2_with fail
  refine (hD v2 w2 (hk.up U2) (own_sl0 o2)).mono ?_
  rintro e w3 ⟨rfl, u3⟩
  have b3 := b2.up u3
  have U3 := U2.trans u3
  have z3 := b3.lt
  clear c0 c1 c2 c3 c4 c5 c6 c7 c8 c9 c10 c11 c12 o2 u3 U2 b2 hD
  obtain ⟨c0, c1, c2, c3, c4, c5, c6, c7, c8, c9, c10, c11, c12⟩ := b3.c13
  have bq : Box (w3.alloc (.cells #[.int .i64 k2, V f2, .string S2, .int .i64 pk2, V g2', V s2', V l2', V p2', V t2', V i2', V c2'] 32)) w3.heap.size #[.int .i64 k2, V f2, .string S2, .int .i64 pk2, V g2', V s2', V l2', V p2', V t2', V i2', V c2'] := Box.new _ _ _
  have uq : Up w3 (w3.alloc (.cells #[.int .i64 k2, V f2, .string S2, .int .i64 pk2, V g2', V s2', V l2', V p2', V t2', V i2', V c2'] 32)) := Up.alloc _ _
  have kQ := hQ _ _ ((HB.out.up U3).up uq)
  go_wp2_with fail
  refine kQ.mono ?_
  rintro e w4 ⟨rfl, u4⟩
  have b4 := bq.up u4
  have U4 := (U3.trans uq).trans u4
  have z4 := b4.lt
  clear c0 c1 c2 c3 c4 c5 c6 c7 c8 c9 c10 c11 c12 kQ hQ bq uq b3 U3 u4 z3
  obtain ⟨c0, c1, c2, c3, c4, c5, c6, c7, c8, c9, c10⟩ := b4.c11
  have hI := qIs_none (w4.alloc (.cells #[.int .i64 k2, V f2, .string S2, .int .i64 pk2, V g2', V s2', V l2', V p2', V t2', V i2', V c2'] 32))
  go_wp2_with fail
  refine hI.mono ?_
  rintro e w5 ⟨rfl, e5⟩
  subst e5
  clear hI hk
  have hr := rec_eq k2 f2 S2 pk2 g2' s2' l2' p2' t2' i2' c2'
  go_wp2
  go_ret
  exact ⟨rfl, U4.trans (Up.alloc _ _)⟩
end Go.Proofs.YtcllenlpoknakaaDoor
