/- Merged: StStepW, StCopyW, StRun, StValid, StApply. -/
import Derived.Test.YtdddfapelencoaaDoorStChange
import Derived.Test.YtdddfapelencoaaDoorStErr
import Derived.Test.YtdddfapelencoaaDoorStCopy
import Derived.Test.YtdddfapelencoaaDoorStFind
import Derived.Test.YtdddfapelencoaaDoorPlAny
set_option linter.unusedVariables false
set_option linter.unusedSimpArgs false
namespace Go.Proofs.YtdddfapelencoaaDoor
open Go Go.RowKit

/-- The package variable of an error. -/
def gOf : Flw → Nat
  | .arg => 1
  | .gap => 3
  | .log => 0
/-- What step leaves. -/
def StepPost (sb base : Nat) (v : Value) (ad : Nat → Addr) (w : World) (o : Except Flw StV) (e : Ending) (w' : World) : Prop :=
  match o with
  | .error x => e = .returned (E (ad (gOf x))) ∧ Up w w'
  | .ok t => e = .returned .nilIface ∧ ∃ v', Box w' sb #[V t.lsn, V t.floor, v'] ∧ OwnE w' base v' t.keys ∧ Touch w w' (sb :: ob v)

set_option maxRecDepth 20000 in
set_option maxHeartbeats 3200000 in
theorem step_arg (sb l f n : Nat) (v : Value) (k : Int) (fl : Nat) (S : ByteArray) (pk : Int) (rg rs rl rp rt ri rc : Nat) (w : World) (hb : Box w sb #[V l, V f, v]) (hv : ∃ a n c, v = .slice a n c) (hl : l ≤ 4611686018427387904) (hn : n < 18446744073709551616)
    (hV : ∀ u, Calls Tryd.prog 47 #[RcV k fl S pk rg rs rl rp rt ri rc] u fun e w' => e = .returned (.bool false) ∧ Up u w') (a : Addr) (hg : Gl w 1 a) :
    Calls Tryd.prog 41 #[.pointer (some ⟨sb, 0, none⟩), V n, RcV k fl S pk rg rs rl rp rt ri rc] w fun e w' => e = .returned (E a) ∧ Up w w' := by
  have HV : Hid (∀ u, Calls Tryd.prog 47 #[RcV k fl S pk rg rs rl rp rt ri rc] u fun e w' => e = .returned (.bool false) ∧ Up u w') := hV
  obtain ⟨a0, N, cp, rfl⟩ := hv
  have b0 : Box (w.alloc (.cells #[.int .i64 k, V fl, .string S, .int .i64 pk, V rg, V rs, V rl, V rp, V rt, V ri, V rc] 39)) w.heap.size #[.int .i64 k, V fl, .string S, .int .i64 pk, V rg, V rs, V rl, V rp, V rt, V ri, V rc] := Box.new _ _ _
  have u0 : Up w (w.alloc (.cells #[.int .i64 k, V fl, .string S, .int .i64 pk, V rg, V rs, V rl, V rp, V rt, V ri, V rc] 39)) := Up.alloc _ _
  have b1 := hb.up u0
  obtain ⟨B, hB⟩ : ∃ B, w.heap.size = B := ⟨_, rfl⟩
  have HB : Hid (w.heap.size = B) := hB
  rw [hB] at b0
  have e1 : IntKind.u64.wrap ((l : Int) + 1) = (l : Int) + 1 := by rw [IntKind.wrap_u64]; omega
  have hl1 : (l : Int) ≤ 4611686018427387904 := by omega
  clear hV hb
  go_enter Tryd.func41, Tryd.ntmps41
  go_upto_region 1 with fail
  clear hB
  generalize w.alloc (.cells #[.int .i64 k, V fl, .string S, .int .i64 pk, V rg, V rs, V rl, V rp, V rt, V ri, V rc] 39) = w0 at *
  obtain ⟨r0, r1, r2, r3, r4, r5, r6, r7, r8, r9, r10⟩ := b0.c11
  go_wp2_with fail
  refine (HV.out _).mono ?_
  rintro e w1 ⟨rfl, u1⟩
  have hU := u0.trans u1
  replace b0 := b0.up u1
  replace b1 := b1.up u1
  clear r0 r1 r2 r3 r4 r5 r6 r7 r8 r9 r10 u0 u1 HV
  obtain ⟨r0, r1, r2, r3, r4, r5, r6, r7, r8, r9, r10⟩ := b0.c11
  obtain ⟨s0, s1, s2⟩ := b1.c3
  have ge := (hg.up hU).cell
  go_wp2
  go_ret
  exact ⟨rfl, hU⟩

set_option maxRecDepth 20000 in
set_option maxHeartbeats 3200000 in
theorem step_gap (sb l f n : Nat) (v : Value) (k : Int) (fl : Nat) (S : ByteArray) (pk : Int) (rg rs rl rp rt ri rc : Nat) (w : World) (hb : Box w sb #[V l, V f, v]) (hv : ∃ a n c, v = .slice a n c) (hl : l ≤ 4611686018427387904) (hn : n < 18446744073709551616)
    (hV : ∀ u, Calls Tryd.prog 47 #[RcV k fl S pk rg rs rl rp rt ri rc] u fun e w' => e = .returned (.bool true) ∧ Up u w') (a : Addr) (hg : Gl w 3 a) (hne : n ≠ l + 1) :
    Calls Tryd.prog 41 #[.pointer (some ⟨sb, 0, none⟩), V n, RcV k fl S pk rg rs rl rp rt ri rc] w fun e w' => e = .returned (E a) ∧ Up w w' := by
  have HV : Hid (∀ u, Calls Tryd.prog 47 #[RcV k fl S pk rg rs rl rp rt ri rc] u fun e w' => e = .returned (.bool true) ∧ Up u w') := hV
  obtain ⟨a0, N, cp, rfl⟩ := hv
  have b0 : Box (w.alloc (.cells #[.int .i64 k, V fl, .string S, .int .i64 pk, V rg, V rs, V rl, V rp, V rt, V ri, V rc] 39)) w.heap.size #[.int .i64 k, V fl, .string S, .int .i64 pk, V rg, V rs, V rl, V rp, V rt, V ri, V rc] := Box.new _ _ _
  have u0 : Up w (w.alloc (.cells #[.int .i64 k, V fl, .string S, .int .i64 pk, V rg, V rs, V rl, V rp, V rt, V ri, V rc] 39)) := Up.alloc _ _
  have b1 := hb.up u0
  obtain ⟨B, hB⟩ : ∃ B, w.heap.size = B := ⟨_, rfl⟩
  have HB : Hid (w.heap.size = B) := hB
  rw [hB] at b0
  have e1 : IntKind.u64.wrap ((l : Int) + 1) = (l : Int) + 1 := by rw [IntKind.wrap_u64]; omega
  have hl1 : (l : Int) ≤ 4611686018427387904 := by omega
  clear hV hb
  have hq : ((n : Int) == (l : Int) + 1) = false := by simp only [beq_eq_false_iff_ne]; omega
  have hq2 : ((n : Int) != (l : Int) + 1) = true := by rw [bne, hq]; rfl
  clear hne
  go_enter Tryd.func41, Tryd.ntmps41
  go_upto_region 1 with fail
  clear hB
  generalize w.alloc (.cells #[.int .i64 k, V fl, .string S, .int .i64 pk, V rg, V rs, V rl, V rp, V rt, V ri, V rc] 39) = w0 at *
  obtain ⟨r0, r1, r2, r3, r4, r5, r6, r7, r8, r9, r10⟩ := b0.c11
  go_wp2_with fail
  refine (HV.out _).mono ?_
  rintro e w1 ⟨rfl, u1⟩
  have hU := u0.trans u1
  replace b0 := b0.up u1
  replace b1 := b1.up u1
  clear r0 r1 r2 r3 r4 r5 r6 r7 r8 r9 r10 u0 u1 HV
  obtain ⟨r0, r1, r2, r3, r4, r5, r6, r7, r8, r9, r10⟩ := b0.c11
  obtain ⟨s0, s1, s2⟩ := b1.c3
  have ge := (hg.up hU).cell
  go_wp2
  go_ret
  exact ⟨rfl, hU⟩

set_option maxRecDepth 20000 in
set_option maxHeartbeats 3200000 in
theorem step_top (sb l f n : Nat) (v : Value) (k : Int) (fl : Nat) (S : ByteArray) (pk : Int) (rg rs rl rp rt ri rc : Nat) (w : World) (hb : Box w sb #[V l, V f, v]) (hv : ∃ a n c, v = .slice a n c) (hl : l ≤ 4611686018427387904) (hn : n < 18446744073709551616)
    (hV : ∀ u, Calls Tryd.prog 47 #[RcV k fl S pk rg rs rl rp rt ri rc] u fun e w' => e = .returned (.bool true) ∧ Up u w') (a : Addr) (hg : Gl w 3 a) (hne : n = l + 1) (hlt : 4611686018427387904 < n) :
    Calls Tryd.prog 41 #[.pointer (some ⟨sb, 0, none⟩), V n, RcV k fl S pk rg rs rl rp rt ri rc] w fun e w' => e = .returned (E a) ∧ Up w w' := by
  have HV : Hid (∀ u, Calls Tryd.prog 47 #[RcV k fl S pk rg rs rl rp rt ri rc] u fun e w' => e = .returned (.bool true) ∧ Up u w') := hV
  obtain ⟨a0, N, cp, rfl⟩ := hv
  have b0 : Box (w.alloc (.cells #[.int .i64 k, V fl, .string S, .int .i64 pk, V rg, V rs, V rl, V rp, V rt, V ri, V rc] 39)) w.heap.size #[.int .i64 k, V fl, .string S, .int .i64 pk, V rg, V rs, V rl, V rp, V rt, V ri, V rc] := Box.new _ _ _
  have u0 : Up w (w.alloc (.cells #[.int .i64 k, V fl, .string S, .int .i64 pk, V rg, V rs, V rl, V rp, V rt, V ri, V rc] 39)) := Up.alloc _ _
  have b1 := hb.up u0
  obtain ⟨B, hB⟩ : ∃ B, w.heap.size = B := ⟨_, rfl⟩
  have HB : Hid (w.heap.size = B) := hB
  rw [hB] at b0
  have e1 : IntKind.u64.wrap ((l : Int) + 1) = (l : Int) + 1 := by rw [IntKind.wrap_u64]; omega
  have hl1 : (l : Int) ≤ 4611686018427387904 := by omega
  clear hV hb
  have hq2 : ((n : Int) != (l : Int) + 1) = false := by rw [hne]; simp
  have hq3 : (4611686018427387904 : Int) < (n : Int) := by omega
  have hq4 : (4611686018427387904 : Nat) < n := hlt
  clear hne hlt
  go_enter Tryd.func41, Tryd.ntmps41
  go_upto_region 1 with fail
  clear hB
  generalize w.alloc (.cells #[.int .i64 k, V fl, .string S, .int .i64 pk, V rg, V rs, V rl, V rp, V rt, V ri, V rc] 39) = w0 at *
  obtain ⟨r0, r1, r2, r3, r4, r5, r6, r7, r8, r9, r10⟩ := b0.c11
  go_wp2_with fail
  refine (HV.out _).mono ?_
  rintro e w1 ⟨rfl, u1⟩
  have hU := u0.trans u1
  replace b0 := b0.up u1
  replace b1 := b1.up u1
  clear r0 r1 r2 r3 r4 r5 r6 r7 r8 r9 r10 u0 u1 HV
  obtain ⟨r0, r1, r2, r3, r4, r5, r6, r7, r8, r9, r10⟩ := b0.c11
  obtain ⟨s0, s1, s2⟩ := b1.c3
  have ge := (hg.up hU).cell
  go_wp2
  go_ret
  exact ⟨rfl, hU⟩

set_option maxRecDepth 20000 in
set_option maxHeartbeats 3200000 in
theorem step_log (sb l f n : Nat) (v : Value) (k : Int) (fl : Nat) (S : ByteArray) (pk : Int) (rg rs rl rp rt ri rc : Nat) (w : World) (hb : Box w sb #[V l, V f, v]) (hv : ∃ a n c, v = .slice a n c) (hl : l ≤ 4611686018427387904) (hn : n < 18446744073709551616)
    (hV : ∀ u, Calls Tryd.prog 47 #[RcV k fl S pk rg rs rl rp rt ri rc] u fun e w' => e = .returned (.bool true) ∧ Up u w') (a : Addr) (hg : Gl w 0 a) (hne : n = l + 1) (hlt : n ≤ 4611686018427387904) (hC : ∀ u, Up w u → Calls Tryd.prog 48 #[.pointer (some ⟨sb, 0, none⟩), RcV k fl S pk rg rs rl rp rt ri rc] u fun e w' => e = .returned (.bool false) ∧ Up u w') :
    Calls Tryd.prog 41 #[.pointer (some ⟨sb, 0, none⟩), V n, RcV k fl S pk rg rs rl rp rt ri rc] w fun e w' => e = .returned (E a) ∧ Up w w' := by
  have HV : Hid (∀ u, Calls Tryd.prog 47 #[RcV k fl S pk rg rs rl rp rt ri rc] u fun e w' => e = .returned (.bool true) ∧ Up u w') := hV
  obtain ⟨a0, N, cp, rfl⟩ := hv
  have b0 : Box (w.alloc (.cells #[.int .i64 k, V fl, .string S, .int .i64 pk, V rg, V rs, V rl, V rp, V rt, V ri, V rc] 39)) w.heap.size #[.int .i64 k, V fl, .string S, .int .i64 pk, V rg, V rs, V rl, V rp, V rt, V ri, V rc] := Box.new _ _ _
  have u0 : Up w (w.alloc (.cells #[.int .i64 k, V fl, .string S, .int .i64 pk, V rg, V rs, V rl, V rp, V rt, V ri, V rc] 39)) := Up.alloc _ _
  have b1 := hb.up u0
  obtain ⟨B, hB⟩ : ∃ B, w.heap.size = B := ⟨_, rfl⟩
  have HB : Hid (w.heap.size = B) := hB
  rw [hB] at b0
  have e1 : IntKind.u64.wrap ((l : Int) + 1) = (l : Int) + 1 := by rw [IntKind.wrap_u64]; omega
  have hl1 : (l : Int) ≤ 4611686018427387904 := by omega
  clear hV hb
  have hq2 : ((n : Int) != (l : Int) + 1) = false := by rw [hne]; simp
  have hq3 : ¬ (4611686018427387904 : Int) < (n : Int) := by omega
  have hq4 : ¬ (4611686018427387904 : Nat) < n := by omega
  have hq5 : decide ((4611686018427387904 : Int) < (n : Int)) = false := decide_eq_false hq3
  clear hne hlt
  have HC : Hid (∀ u, Up w u → Calls Tryd.prog 48 #[.pointer (some ⟨sb, 0, none⟩), RcV k fl S pk rg rs rl rp rt ri rc] u fun e w' => e = .returned (.bool false) ∧ Up u w') := hC
  clear hC
  go_enter Tryd.func41, Tryd.ntmps41
  go_upto_region 1 with fail
  clear hB
  generalize w.alloc (.cells #[.int .i64 k, V fl, .string S, .int .i64 pk, V rg, V rs, V rl, V rp, V rt, V ri, V rc] 39) = w0 at *
  obtain ⟨r0, r1, r2, r3, r4, r5, r6, r7, r8, r9, r10⟩ := b0.c11
  go_wp2_with fail
  refine (HV.out _).mono ?_
  rintro e w1 ⟨rfl, u1⟩
  have hU := u0.trans u1
  replace b0 := b0.up u1
  replace b1 := b1.up u1
  clear r0 r1 r2 r3 r4 r5 r6 r7 r8 r9 r10 u0 u1 HV
  obtain ⟨r0, r1, r2, r3, r4, r5, r6, r7, r8, r9, r10⟩ := b0.c11
  obtain ⟨s0, s1, s2⟩ := b1.c3
  go_wp2_with fail
  refine (HC.out _ hU).mono ?_
  rintro e w2 ⟨rfl, u2⟩
  replace hU := hU.trans u2
  have ge := (hg.up hU).cell
  go_wp2
  go_ret
  exact ⟨rfl, hU⟩

set_option maxRecDepth 20000 in
set_option maxHeartbeats 3200000 in
theorem step_go (sb l f n : Nat) (v : Value) (k : Int) (fl : Nat) (S : ByteArray) (pk : Int) (rg rs rl rp rt ri rc : Nat) (w : World) (hb : Box w sb #[V l, V f, v]) (hv : ∃ a n c, v = .slice a n c) (hl : l ≤ 4611686018427387904) (hn : n < 18446744073709551616)
    (hV : ∀ u, Calls Tryd.prog 47 #[RcV k fl S pk rg rs rl rp rt ri rc] u fun e w' => e = .returned (.bool true) ∧ Up u w') (base : Nat) (ys : List Ent) (hne : n = l + 1) (hlt : n ≤ 4611686018427387904) (hsb : sb < base) (hbw : base ≤ w.heap.size) (hbl : ∀ j ∈ ob v, j < w.heap.size) (hC : ∀ u, Up w u → Calls Tryd.prog 48 #[.pointer (some ⟨sb, 0, none⟩), RcV k fl S pk rg rs rl rp rt ri rc] u fun e w' => e = .returned (.bool true) ∧ ∃ v', Box w' sb #[V l, V f, v'] ∧ OwnE w' base v' ys ∧ Touch u w' (sb :: ob v)) :
    Calls Tryd.prog 41 #[.pointer (some ⟨sb, 0, none⟩), V n, RcV k fl S pk rg rs rl rp rt ri rc] w fun e w' => e = .returned .nilIface ∧ ∃ v', Box w' sb #[V n, V (max f fl), v'] ∧ OwnE w' base v' ys ∧ Touch w w' (sb :: ob v) := by
  have HV : Hid (∀ u, Calls Tryd.prog 47 #[RcV k fl S pk rg rs rl rp rt ri rc] u fun e w' => e = .returned (.bool true) ∧ Up u w') := hV
  obtain ⟨a0, N, cp, rfl⟩ := hv
  have b0 : Box (w.alloc (.cells #[.int .i64 k, V fl, .string S, .int .i64 pk, V rg, V rs, V rl, V rp, V rt, V ri, V rc] 39)) w.heap.size #[.int .i64 k, V fl, .string S, .int .i64 pk, V rg, V rs, V rl, V rp, V rt, V ri, V rc] := Box.new _ _ _
  have u0 : Up w (w.alloc (.cells #[.int .i64 k, V fl, .string S, .int .i64 pk, V rg, V rs, V rl, V rp, V rt, V ri, V rc] 39)) := Up.alloc _ _
  have b1 := hb.up u0
  obtain ⟨B, hB⟩ : ∃ B, w.heap.size = B := ⟨_, rfl⟩
  have HB : Hid (w.heap.size = B) := hB
  rw [hB] at b0
  have e1 : IntKind.u64.wrap ((l : Int) + 1) = (l : Int) + 1 := by rw [IntKind.wrap_u64]; omega
  have hl1 : (l : Int) ≤ 4611686018427387904 := by omega
  clear hV hb
  obtain ⟨X, hX⟩ : ∃ X, max f fl = X := ⟨_, rfl⟩
  rw [hX]
  have HX : Hid (max f fl = X) := hX
  clear hX
  have hq2 : ((n : Int) != (l : Int) + 1) = false := by rw [hne]; simp
  have hq3 : ¬ (4611686018427387904 : Int) < (n : Int) := by omega
  have hq4 : ¬ (4611686018427387904 : Nat) < n := by omega
  have hq5 : decide ((4611686018427387904 : Int) < (n : Int)) = false := decide_eq_false hq3
  clear hne hlt
  have HC : Hid (∀ u, Up w u → Calls Tryd.prog 48 #[.pointer (some ⟨sb, 0, none⟩), RcV k fl S pk rg rs rl rp rt ri rc] u fun e w' => e = .returned (.bool true) ∧ ∃ v', Box w' sb #[V l, V f, v'] ∧ OwnE w' base v' ys ∧ Touch u w' (sb :: ob (.slice a0 N cp))) := hC
  have HH : Hid (sb < base ∧ base ≤ w.heap.size ∧ ∀ j ∈ ob (.slice a0 N cp), j < w.heap.size) := ⟨hsb, hbw, hbl⟩
  clear hC hsb hbw hbl
  go_enter Tryd.func41, Tryd.ntmps41
  go_upto_region 1 with fail
  clear hB
  generalize w.alloc (.cells #[.int .i64 k, V fl, .string S, .int .i64 pk, V rg, V rs, V rl, V rp, V rt, V ri, V rc] 39) = w0 at *
  obtain ⟨r0, r1, r2, r3, r4, r5, r6, r7, r8, r9, r10⟩ := b0.c11
  go_wp2_with fail
  refine (HV.out _).mono ?_
  rintro e w1 ⟨rfl, u1⟩
  have hU := u0.trans u1
  replace b0 := b0.up u1
  replace b1 := b1.up u1
  clear r0 r1 r2 r3 r4 r5 r6 r7 r8 r9 r10 u0 u1 HV
  obtain ⟨r0, r1, r2, r3, r4, r5, r6, r7, r8, r9, r10⟩ := b0.c11
  obtain ⟨s0, s1, s2⟩ := b1.c3
  go_wp2_with fail
  refine (HC.out _ hU).mono ?_
  rintro e w2 ⟨rfl, v', b2, o2, t2⟩
  have hBn : B ∉ sb :: ob (.slice a0 N cp) := by
    have h1 := HH.out; have h2 := HB.out
    simp only [List.mem_cons, not_or]
    refine ⟨by omega, fun hm => ?_⟩
    have := h1.2.2 B hm
    omega
  have hr := Touch.box b0 t2 hBn
  have tt := (Touch.of_up hU (sb :: ob (.slice a0 N cp))).trans t2 (fun j hj => .inl hj)
  obtain ⟨a1, M, c1, rfl⟩ : ∃ a1 M c1, v' = .slice a1 M c1 := by obtain ⟨a1, c1, e⟩ := o2.shape; exact ⟨_, _, _, e⟩
  have HO : Hid (OwnE w2 base (.slice a1 M c1) ys ∧ Touch w w2 (sb :: ob (.slice a0 N cp))) := ⟨o2, tt⟩
  clear r0 r1 r2 r3 r4 r5 r6 r7 r8 r9 r10 s0 s1 s2 b0 b1 hU t2 o2 tt hBn HC
  have hBs : B ≠ sb := by have h1 := HH.out; have h2 := HB.out; omega
  have HBS : Hid (B ≠ sb) := hBs
  clear hBs
  have hX := HX.out
  clear HX
  go_upto_region 7 with fail
  replace hr := hr.up (Up.drew w2)
  replace b2 := b2.up (Up.drew w2)
  have tz00 : Touch w2 w2.drew [sb] := Touch.drew (Touch.refl _ _)
  have hmax : max (f : Int) (fl : Int) = (X : Int) := by omega
  refine wp_region_held_drew (S := fun u => Box u B #[.int .i64 k, V fl, .string S, .int .i64 pk, V rg, V rs, V rl, V rp, V rt, V ri, V rc]) (by kernel_rfl) hr (fun hs0 => ?_)
  clear hX
  generalize w2.drew = wd at *
  refine take_to (some 28) (i := 0) (v := .pointer (some ⟨sb, 0, none⟩)) rfl rfl (by kernel_rfl) (by kernel_rfl) (by kernel_rfl) (fun _ _ _ h => h) (Or.inl ⟨by kernel_rfl, by intro u hSu; go_simp⟩) hr ?_
  simp only [Act.put, List.setIfInBounds_toArray, List.set_cons_zero, List.set_cons_succ]
  refine take_to (some 29) (i := 1) (v := .pointer (some ⟨sb, 0, none⟩)) rfl rfl (by kernel_rfl) (by kernel_rfl) (by kernel_rfl) (fun _ _ _ h => h) (Or.inl ⟨by kernel_rfl, by intro u hSu; go_simp⟩) hr ?_
  simp only [Act.put, List.setIfInBounds_toArray, List.set_cons_zero, List.set_cons_succ]
  refine take_to (some 30) (i := 2) (v := V n) rfl rfl (by kernel_rfl) (by kernel_rfl) (by kernel_rfl) (fun _ _ _ h => h) (Or.inl ⟨by kernel_rfl, by intro u hSu; go_simp⟩) hr ?_
  simp only [Act.put, List.setIfInBounds_toArray, List.set_cons_zero, List.set_cons_succ]
  refine take_to (some 31) (i := 3) (v := .pointer (some ⟨sb, 0, none⟩)) rfl rfl (by kernel_rfl) (by kernel_rfl) (by kernel_rfl) (fun _ _ _ h => h) (Or.inl ⟨by kernel_rfl, by intro u hSu; go_simp⟩) hr ?_
  simp only [Act.put, List.setIfInBounds_toArray, List.set_cons_zero, List.set_cons_succ]
  refine take_to (some 32) (i := 4) (v := .pointer (some ⟨sb, 0, none⟩)) rfl rfl (by kernel_rfl) (by kernel_rfl) (by kernel_rfl) (fun _ _ _ h => h) (Or.inl ⟨by kernel_rfl, by intro u hSu; go_simp⟩) hr ?_
  simp only [Act.put, List.setIfInBounds_toArray, List.set_cons_zero, List.set_cons_succ]
  refine take_to (some 33) (i := 5) (v := .pointer (some ⟨sb, 1, none⟩)) rfl rfl (by kernel_rfl) (by kernel_rfl) (by kernel_rfl) (fun _ _ _ h => h) (Or.inl ⟨by kernel_rfl, by intro u hSu; go_simp⟩) hr ?_
  simp only [Act.put, List.setIfInBounds_toArray, List.set_cons_zero, List.set_cons_succ]
  refine take_to (some 35) (i := 7) (v := .pointer (some ⟨B, 1, none⟩)) rfl rfl (by kernel_rfl) (by kernel_rfl) (by kernel_rfl) (fun _ _ _ h => h) (Or.inl ⟨by kernel_rfl, by intro u hSu; go_simp⟩) hr ?_
  simp only [Act.put, List.setIfInBounds_toArray, List.set_cons_zero, List.set_cons_succ]
  refine take_to (some 36) (i := 8) (v := V fl) rfl rfl (by kernel_rfl) (by kernel_rfl) (by kernel_rfl) (fun _ _ _ h => h) (Or.inl ⟨by kernel_rfl, by intro u hSu; obtain ⟨r0, r1, r2, r3, r4, r5, r6, r7, r8, r9, r10⟩ := Box.c11 hSu; go_simp⟩) hr ?_
  simp only [Act.put, List.setIfInBounds_toArray, List.set_cons_zero, List.set_cons_succ]
  refine wpAnyH_ready (rs := [6]) (by kernel_rfl) (by simp) ?_
  refine AllReadyH.cons rfl (fun K hK => ?_) AllReadyH.nil
  obtain ⟨s0, s1, s2⟩ := b2.c3
  go_simp
  refine hK.out _ _ hr (fun _ => ?_)
  clear hK K
  clear s0 s1 s2
  refine take_to (some 37) (i := 9) (v := V X) rfl rfl (by kernel_rfl) (by kernel_rfl) (by kernel_rfl) (fun _ _ _ h => h) (Or.inl ⟨by kernel_rfl, by intro u hSu; go_simp⟩) hr ?_
  simp only [Act.put, List.setIfInBounds_toArray, List.set_cons_zero, List.set_cons_succ]
  refine take_to (some 38) (i := 10) (v := .pointer (some ⟨sb, 0, none⟩)) rfl rfl (by kernel_rfl) (by kernel_rfl) (by kernel_rfl) (fun _ _ _ h => h) (Or.inl ⟨by kernel_rfl, by intro u hSu; go_simp⟩) hr ?_
  simp only [Act.put, List.setIfInBounds_toArray, List.set_cons_zero, List.set_cons_succ]
  refine take_to (some 39) (i := 11) (v := .pointer (some ⟨sb, 0, none⟩)) rfl rfl (by kernel_rfl) (by kernel_rfl) (by kernel_rfl) (fun _ _ _ h => h) (Or.inl ⟨by kernel_rfl, by intro u hSu; go_simp⟩) hr ?_
  simp only [Act.put, List.setIfInBounds_toArray, List.set_cons_zero, List.set_cons_succ]
  refine wpAnyH_ready (rs := [12]) (by kernel_rfl) (by simp) ?_
  refine AllReadyH.cons rfl (fun K hK => ?_) AllReadyH.nil
  obtain ⟨s0, s1, s2⟩ := b2.c3
  have f0 := b2.frozen 0
  go_simp
  have b3 := b2.set 0 (V n)
  replace hr := hr.other HBS.out 0 (V n)
  have tz0 : Touch w2 (wd.setCell ⟨sb, 0, none⟩ (V n)) [sb] := tz00.setCell (.inl (by simp)) _ _
  refine hK.out _ _ hr (fun _ => ?_)
  clear hK K s0 s1 s2 f0
  generalize wd.setCell ⟨sb, 0, none⟩ (V n) = w3 at *
  refine wpAnyH_ready (rs := [13]) (by kernel_rfl) (by simp) ?_
  refine AllReadyH.cons rfl (fun K hK => ?_) AllReadyH.nil
  go_simp
  refine hK.out _ _ hr (fun _ => ?_)
  clear hK K
  refine wpAnyH_ready (rs := [14]) (by kernel_rfl) (by simp) ?_
  refine AllReadyH.cons rfl (fun K hK => ?_) AllReadyH.nil
  go_simp
  refine hK.out _ _ hr (fun _ => ?_)
  clear hK K
  refine wpAnyH_ready (rs := [15]) (by kernel_rfl) (by simp) ?_
  refine AllReadyH.cons rfl (fun K hK => ?_) AllReadyH.nil
  obtain ⟨s0, s1, s2⟩ := b3.c3
  have f1 := b3.frozen 1
  go_simp
  have b4 := b3.set 1 (V X)
  replace hr := hr.other HBS.out 1 (V X)
  refine hK.out _ _ hr (fun _ => ?_)
  clear hK K s0 s1 s2 f1
  refine wpAnyH_done (by kernel_rfl) ?_ _
  go_wp2
  go_ret
  have tz : Touch w2 (w3.setCell ⟨sb, 1, none⟩ (V X)) [sb] := tz0.setCell (.inl (by simp)) _ _
  exact ⟨rfl, _, b4, HO.out.1.kept tz (fun j hj => by have := (HO.out.1.ge j hj).1; have := HH.out.1; simp; omega), HO.out.2.trans tz (fun j hj => .inl (by simp at hj; simp [hj]))⟩

theorem step_any (sb base l f n : Nat) (v : Value) (xs : List Ent) (r : RecV) (ad : Nat → Addr) (w : World) (hk : ErrSet stErrs errTxt w ad) (hb : Box w sb #[V l, V f, v]) (ho : OwnE w base v xs) (hs : OkS ⟨l, f, xs⟩) (hn : n < 18446744073709551616) (hsb : sb < base) (hbase : base ≤ w.heap.size) :
    Calls Tryd.prog 41 #[.pointer (some ⟨sb, 0, none⟩), V n, RV r] w (StepPost sb base v ad w (stepS ⟨l, f, xs⟩ n r)) := by
  have hV := fun u => RValid_any r u
  have hl := hs.lsn
  have sh : ∃ a n c, v = .slice a n c := by obtain ⟨a, c, e⟩ := ho.shape; exact ⟨_, _, _, e⟩
  have ga := (hk 1 (by decide)).1
  have gg := (hk 3 (by decide)).1
  have gl := (hk 0 (by decide)).1
  unfold stepS
  by_cases hr : validR r
  · rw [if_neg (Decidable.not_not.2 hr)]
    rw [decide_eq_true hr] at hV
    by_cases h1 : n = l + 1
    · by_cases h2 : 4611686018427387904 < n
      · rw [if_pos (Or.inr h2)]
        exact step_top sb l f n v _ _ _ _ _ _ _ _ _ _ _ w hb sh hl hn hV _ gg h1 h2
      · rw [if_neg (by simp only [not_or, Decidable.not_not]; exact ⟨h1, by omega⟩)]
        have hC := fun u (uu : Up w u) => change_any sb base l f v xs r u (hb.up uu) (ho.up uu) hs.srt hs.len hr hsb (Nat.le_trans hbase uu.size)
        show Calls _ _ _ _ (StepPost sb base v ad w (match chg xs r with | none => .error .log | some ys => .ok ⟨n, max f r.floor, ys⟩))
        cases hc : chg xs r with
        | none =>
          rw [hc] at hC
          exact step_log sb l f n v _ _ _ _ _ _ _ _ _ _ _ w hb sh hl hn hV _ gl h1 (by omega) hC
        | some ys =>
          rw [hc] at hC
          exact step_go sb l f n v _ _ _ _ _ _ _ _ _ _ _ w hb sh hl hn hV base ys h1 (by omega) hsb hbase (fun j hj => (ho.ge j hj).2) hC
    · rw [if_pos (Or.inl h1)]
      exact step_gap sb l f n v _ _ _ _ _ _ _ _ _ _ _ w hb sh hl hn hV _ gg h1
  · rw [if_pos hr]
    rw [decide_eq_false hr] at hV
    exact step_arg sb l f n v _ _ _ _ _ _ _ _ _ _ _ w hb sh hl hn hV _ ga
end Go.Proofs.YtdddfapelencoaaDoor

set_option linter.unusedVariables false
set_option linter.unusedSimpArgs false
namespace Go.Proofs.YtdddfapelencoaaDoor
open Go Go.RowKit

/-- What holds in a round of copyOf. -/
structure Sc (B N c1 g l f : Nat) (cur : Array Value) (w u : World) : Prop where
  box : Box u B #[V l, V f, .slice (some ⟨g, 0, none⟩) N c1]
  zero : Box u (B + 1) #[Z, Z, .slice none 0 0]
  row : u.heap[g]? = some (.cells cur 58 (0, 0))
  all : Up w u
theorem Sc.up {B N c1 g l f : Nat} {cur : Array Value} {w u u' : World} (h : Sc B N c1 g l f cur w u) (k : Up u u') : Sc B N c1 g l f cur w u' :=
  ⟨h.box.up k, h.zero.up k, (k.block g (Array.getElem?_eq_some_iff.1 h.row).1).trans h.row, h.all.trans k⟩
theorem Sc.put {B N c1 g l f i : Nat} {cur : Array Value} {w u : World} {v : Value} (h : Sc B N c1 g l f cur w u) (hg : B + 2 ≤ g) (hB : w.heap.size = B) (hv : cur[i]? = some v) : Sc B N c1 g l f cur w (u.setCell ⟨g, i, none⟩ v) :=
  ⟨h.box.other (by omega) _ _, h.zero.other (by omega) _ _, setCell_same h.row hv, h.all.setCell (show w.heap.size ≤ (⟨g, i, none⟩ : Addr).block by show w.heap.size ≤ g; omega) _⟩

set_option maxRecDepth 20000 in
set_option maxHeartbeats 1600000 in
theorem copyOf_any (v : Value) (l f : Nat) (xs : List Ent) (w : World) (h : SlE w v xs) (hl : xs.length ≤ 1000000000000) (hk : ∀ x ∈ xs, x.1.size ≤ 281474976710656) :
    Calls Tryd.prog 40 #[.agg #[V l, V f, v]] w fun e w' => ∃ v', e = .returned (.agg #[V l, V f, v']) ∧ OwnE w' w.heap.size v' xs ∧ Up w w' := by
  have HC : Hid (∀ u, Up w u → Calls Tryd.prog 45 #[v] u fun e w' => ∃ v', e = .returned v' ∧ OwnE w' u.heap.size v' xs ∧ Up u w') := fun u uu => cloneE_any v xs u (h.up uu) hl
  obtain ⟨a0, c0, rfl⟩ := h.shape
  obtain ⟨N, hN⟩ : ∃ N, xs.length = N := ⟨_, rfl⟩
  have HN : Hid (xs.length = N) := hN
  have HK : Hid (∀ x ∈ xs, x.1.size ≤ 281474976710656) := hk
  rw [hN] at HC hl ⊢
  obtain ⟨B, hB⟩ : ∃ B, w.heap.size = B := ⟨_, rfl⟩
  have HB : Hid (w.heap.size = B) := hB
  have b0 : Box ((w.alloc (.cells #[V l, V f, .slice a0 N c0] 27)).alloc (.cells #[Z, Z, .slice none 0 0] 27)) w.heap.size #[V l, V f, .slice a0 N c0] := (Box.new _ _ _).alloc _
  have b1 : Box ((w.alloc (.cells #[V l, V f, .slice a0 N c0] 27)).alloc (.cells #[Z, Z, .slice none 0 0] 27)) (w.heap.size + 1) #[Z, Z, .slice none 0 0] := Box.newAt (by simp)
  have u0 : Up w ((w.alloc (.cells #[V l, V f, .slice a0 N c0] 27)).alloc (.cells #[Z, Z, .slice none 0 0] 27)) := (Up.alloc _ _).trans (Up.alloc _ _)
  have hsz : ((w.alloc (.cells #[V l, V f, .slice a0 N c0] 27)).alloc (.cells #[Z, Z, .slice none 0 0] 27)).heap.size = w.heap.size + 2 := by simp
  rw [hB] at b0 b1 hsz ⊢
  clear hk hN h
  go_enter Tryd.func40, Tryd.ntmps40
  go_wp2_with fail
  clear hB
  generalize (w.alloc (.cells #[V l, V f, .slice a0 N c0] 27)).alloc (.cells #[Z, Z, .slice none 0 0] 27) = w0 at *
  refine (HC.out w0 u0).mono ?_
  rintro e w1 ⟨v', rfl, ho, u1⟩
  rw [hsz] at ho
  have b0' := b0.up u1
  have b1' := b1.up u1
  have U1 : Hid (Up w w1) := u0.trans u1
  obtain ⟨d0, d1, d2⟩ := b0'.c3
  have z0 := b0'.lt
  have fz := b0'.frozen 2
  clear b0 b1 u0 u1 hsz HC
  obtain ⟨a1, c1, rfl⟩ := ho.shape
  go_upto_region 2 with fail
  have b2 : Box (w1.setCell ⟨B, 2, none⟩ (.slice a1 xs.length c1)) B #[V l, V f, .slice a1 xs.length c1] := b0'.set 2 _
  have b3 : Box (w1.setCell ⟨B, 2, none⟩ (.slice a1 xs.length c1)) (B + 1) #[Z, Z, .slice none 0 0] := b1'.other (by omega) 2 _
  have t2 : Touch w1 (w1.setCell ⟨B, 2, none⟩ (.slice a1 xs.length c1)) [B] := (Touch.refl _ _).setCell (.inl (by simp)) _ _
  have o2 : OwnE (w1.setCell ⟨B, 2, none⟩ (.slice a1 xs.length c1)) (B + 2) (.slice a1 xs.length c1) xs := ho.kept t2 (fun k hk => by have := (ho.ge k hk).1; simp; omega)
  have U2 : Hid (Up w (w1.setCell ⟨B, 2, none⟩ (.slice a1 xs.length c1))) := Touch.up (S := [B]) ((Touch.of_up U1.out [B]).trans t2 (fun k hk => .inl hk)) (fun k hk => by simp at hk; have := HB.out; omega)
  generalize World.setCell _ _ _ = w2 at b2 b3 o2 U2 ⊢
  clear b0' b1' ho t2 d0 d1 d2 z0 fz U1
  rw [HN.out] at b2 ⊢
  have HO : Hid (OwnE w2 (B + 2) (.slice a1 xs.length c1) xs) := o2
  rw [HN.out] at HO
  clear o2
  obtain ⟨d0, d1, d2⟩ := b2.c3
  have b2h : Hid (Box w2 B #[V l, V f, .slice a1 N c1] ∧ Box w2 (B + 1) #[Z, Z, .slice none 0 0]) := ⟨b2, b3⟩
  clear b2 b3
  go_wp2
  go_loopg [11] N (fun g s11 wr => ∃ k : Nat, k ≤ N ∧ g = N - k ∧ s11 = .int .i64 k ∧ Hid (Up w wr) ∧ Hid (Box wr B #[V l, V f, .slice a1 N c1] ∧ Box wr (B + 1) #[Z, Z, .slice none 0 0]) ∧ Hid (OwnE wr (B + 2) (.slice a1 N c1) xs))
  case atStart => exact ⟨0, by omega, rfl, rfl, U2, b2h, HO⟩
  case round =>
    clear U2 b2h HO d0 d1 d2
    obtain ⟨k, hk, rfl, rfl, HU, HBX, HO⟩ := hrel
    by_cases hlt : k < N
    · have hm : k < xs.length := by rw [HN.out]; exact hlt
      have hne : xs ≠ [] := by rintro rfl; simp at hm
      rcases HO.out.parts with ⟨e1, e2⟩ | ⟨g, cap, cur, e1, hb, hg1, hg, hnc, hcm, hcs, ht⟩
      · exact absurd e2 hne
      simp only [Value.slice.injEq] at e1
      obtain ⟨rfl, eN, rfl⟩ := e1
      clear eN
      have hkx : xs[k].1.size ≤ 281474976710656 := HK.out _ (List.getElem_mem hm)
      have hat := ((row_ents hg ht).at k hm).1
      obtain ⟨S, hS⟩ : ∃ S, xs[k].1 = S := ⟨_, rfl⟩
      rw [hS, Nat.zero_add] at hat
      rw [hS] at hkx
      have hcur : cur[k * 9]? = some (.string S) := by rw [← hat, cell_of_row _ _ _ _ _ _ hg]
      have HS : Hid (∀ u, Calls Tryd.prog 46 #[.string S] u fun e w' => e = .returned (.string S) ∧ Up u w') := fun u => strClone_any S u hkx
      have HD : Hid (N - (k + 1) < N - k ∧ k < N) := ⟨by omega, hlt⟩
      have HF : Hid (B + 2 ≤ g ∧ wr.heap[g]? = some (.cells cur 58 (0, 0)) ∧ cur[k * 9]? = some (.string S) ∧ xs.length ≤ c1 ∧ c1 ≤ maxLen ∧ cur.size = c1 * 9 ∧ cur.toList.take (xs.length * 9) = Ecs xs) := ⟨hb, hg, hcur, hnc, hcm, hcs, ht⟩
      obtain ⟨hbx, hbz⟩ := HBX.out
      have hs : Sc B N c1 g l f cur w wr := ⟨hbx, hbz, hg, HU.out⟩
      have sof : ∀ {a b : World}, Sc B N c1 g l f cur w a → Up a b → Sc B N c1 g l f cur w b := fun h u => h.up u
      clear hkx hat hcur hb hg1 hg hnc hcm hcs ht hm hne hS hbx hbz
      go_upto_region 5 with fail
      replace hs := sof hs (Up.drew wr)
      refine wp_region_held_drew (S := Sc B N c1 g l f cur w) (by kernel_rfl) hs (fun hs0 => ?_)
      refine take_to (some 14) (i := 0) (v := .pointer (some ⟨B, 2, none⟩)) rfl rfl (by kernel_rfl) (by kernel_rfl) (by kernel_rfl) (fun _ _ _ h => h) (Or.inl ⟨by kernel_rfl, by intro u hSu; go_simp⟩) hs ?_
      simp only [Act.put, List.setIfInBounds_toArray, List.set_cons_zero, List.set_cons_succ]
      refine take_to (some 15) (i := 1) (v := .slice (some ⟨g, 0, none⟩) N c1) rfl rfl (by kernel_rfl) (by kernel_rfl) (by kernel_rfl) (fun _ _ _ h => h) (Or.inl ⟨by kernel_rfl, by intro u hSu; have q2 := hSu.box.cell 2; go_simp⟩) hs ?_
      simp only [Act.put, List.setIfInBounds_toArray, List.set_cons_zero, List.set_cons_succ]
      refine take_to (some 16) (i := 2) (v := .int .i64 (k : Int)) rfl rfl (by kernel_rfl) (by kernel_rfl) (by kernel_rfl) (fun _ _ _ h => h) (Or.inl ⟨by kernel_rfl, by intro u hSu; go_simp⟩) hs ?_
      simp only [Act.put, List.setIfInBounds_toArray, List.set_cons_zero, List.set_cons_succ]
      refine take_to (some 17) (i := 3) (v := .pointer (some ⟨B, 2, none⟩)) rfl rfl (by kernel_rfl) (by kernel_rfl) (by kernel_rfl) (fun _ _ _ h => h) (Or.inl ⟨by kernel_rfl, by intro u hSu; go_simp⟩) hs ?_
      simp only [Act.put, List.setIfInBounds_toArray, List.set_cons_zero, List.set_cons_succ]
      refine take_to (some 18) (i := 4) (v := .slice (some ⟨g, 0, none⟩) N c1) rfl rfl (by kernel_rfl) (by kernel_rfl) (by kernel_rfl) (fun _ _ _ h => h) (Or.inl ⟨by kernel_rfl, by intro u hSu; have q2 := hSu.box.cell 2; go_simp⟩) hs ?_
      simp only [Act.put, List.setIfInBounds_toArray, List.set_cons_zero, List.set_cons_succ]
      refine take_to (some 19) (i := 5) (v := .int .i64 (k : Int)) rfl rfl (by kernel_rfl) (by kernel_rfl) (by kernel_rfl) (fun _ _ _ h => h) (Or.inl ⟨by kernel_rfl, by intro u hSu; go_simp⟩) hs ?_
      simp only [Act.put, List.setIfInBounds_toArray, List.set_cons_zero, List.set_cons_succ]
      refine take_to (some 20) (i := 6) (v := .pointer (some ⟨g, k * 9, none⟩)) rfl rfl (by kernel_rfl) (by kernel_rfl) (by kernel_rfl) (fun _ _ _ h => h) (Or.inl ⟨by kernel_rfl, by intro u hSu; go_simp⟩) hs ?_
      simp only [Act.put, List.setIfInBounds_toArray, List.set_cons_zero, List.set_cons_succ]
      refine take_to (some 21) (i := 7) (v := .pointer (some ⟨g, k * 9, none⟩)) rfl rfl (by kernel_rfl) (by kernel_rfl) (by kernel_rfl) (fun _ _ _ h => h) (Or.inl ⟨by kernel_rfl, by intro u hSu; go_simp⟩) hs ?_
      simp only [Act.put, List.setIfInBounds_toArray, List.set_cons_zero, List.set_cons_succ]
      refine take_to (some 22) (i := 8) (v := .string S) rfl rfl (by kernel_rfl) (by kernel_rfl) (by kernel_rfl) (fun _ _ _ h => h) (Or.inl ⟨by kernel_rfl, by intro u hSu; have q3 := (cell_of_row _ _ _ _ _ _ hSu.row).trans HF.out.2.2.1; go_simp⟩) hs ?_
      simp only [Act.put, List.setIfInBounds_toArray, List.set_cons_zero, List.set_cons_succ]
      refine wpAnyH_ready (rs := [9]) (by kernel_rfl) (by simp) ?_
      refine AllReadyH.cons rfl (fun K hK => ?_) AllReadyH.nil
      go_simp
      refine (HS.out _).mono ?_
      rintro e w3 ⟨rfl, u3⟩
      replace hs := sof hs u3
      refine hK.out _ _ hs (fun _ => ?_)
      clear hK K
      refine wpAnyH_ready (rs := [10]) (by kernel_rfl) (by simp) ?_
      refine AllReadyH.cons rfl (fun K hK => ?_) AllReadyH.nil
      go_simp
      refine hK.out _ _ hs (fun _ => ?_)
      clear hK K
      refine wpAnyH_ready (rs := [11]) (by kernel_rfl) (by simp) ?_
      refine AllReadyH.cons rfl (fun K hK => ?_) AllReadyH.nil
      go_simp
      refine hK.out _ _ hs (fun _ => ?_)
      clear hK K
      refine wpAnyH_ready (rs := [12]) (by kernel_rfl) (by simp) ?_
      refine AllReadyH.cons rfl (fun K hK => ?_) AllReadyH.nil
      have q3 := (cell_of_row _ _ (k * 9) _ _ _ hs.row).trans HF.out.2.2.1
      have q4 := show w3.frozen? ⟨g, k * 9, none⟩ = false from by simp [World.frozen?, hs.row]
      go_simp
      have hs2 := hs.put HF.out.1 HB.out HF.out.2.2.1
      refine hK.out _ _ hs2 (fun _ => ?_)
      clear hK K
      refine wpAnyH_done (by kernel_rfl) ?_ _
      generalize World.setCell _ _ _ = w4 at hs2 ⊢
      go_simp
      go_wp2
      go_roundg (N - (k + 1))
      case measure => exact HD.out.1
      case rel =>
        refine ⟨k + 1, HD.out.2, rfl, by go_num, hs2.all, ⟨hs2.box, hs2.zero⟩, ?_⟩
        have q := HF.out
        have := OwnE.mk (base := B + 2) (xs := xs) q.1 hs2.row q.2.2.2.1 q.2.2.2.2.1 q.2.2.2.2.2.1 q.2.2.2.2.2.2
        rwa [HN.out] at this
    · obtain rfl : k = N := by omega
      obtain ⟨hbx, hbz⟩ := HBX.out
      obtain ⟨d0, d1, d2⟩ := hbx.c3
      have f0 := hbz.frozen 0
      have f1 := hbz.frozen 1
      have f2 := hbz.frozen 2
      obtain ⟨g0, g1, g2⟩ := hbz.c3
      have z1 := hbz.lt
      have HZ : Hid (Box wr (B + 1) #[Z, Z, .slice none 0 0] ∧ Up w wr ∧ OwnE wr (B + 2) (.slice a1 k c1) xs) := ⟨hbz, HU.out, HO.out⟩
      clear hbx hbz HU HO HBX HK
      go_wp2_with fail
      have bR : Box (((wr.setCell ⟨B + 1, 0, none⟩ (V l)).setCell ⟨B + 1, 1, none⟩ (V f)).setCell ⟨B + 1, 2, none⟩ (.slice a1 k c1)) (B + 1) #[V l, V f, .slice a1 k c1] := Box.set3 HZ.out.1
      have UR : Up w (((wr.setCell ⟨B + 1, 0, none⟩ (V l)).setCell ⟨B + 1, 1, none⟩ (V f)).setCell ⟨B + 1, 2, none⟩ (.slice a1 k c1)) := Up.set3 HZ.out.2.1 (by have := HB.out; omega) _ _ _
      have TR : Touch wr (((wr.setCell ⟨B + 1, 0, none⟩ (V l)).setCell ⟨B + 1, 1, none⟩ (V f)).setCell ⟨B + 1, 2, none⟩ (.slice a1 k c1)) [B + 1] := (((Touch.refl _ _).setCell (.inl (by simp)) _ _).setCell (.inl (by simp)) _ _).setCell (.inl (by simp)) _ _
      have OR := HZ.out.2.2.kept TR (fun j hj => by have := (HZ.out.2.2.ge j hj).1; simp; omega)
      generalize World.setCell (World.setCell (World.setCell _ _ _) _ _) _ _ = w6 at bR UR OR ⊢
      obtain ⟨r0, r1, r2⟩ := bR.c3
      exact bodyPost_ret (v := .agg #[V l, V f, .slice a1 k c1]) (by simp [results, Tryd.results40, go_sem, r0, r1, r2]) rfl ⟨_, rfl, OR.rebase (by omega), UR⟩
end Go.Proofs.YtdddfapelencoaaDoor

set_option linter.unusedVariables false
set_option linter.unusedSimpArgs false
namespace Go.Proofs.YtdddfapelencoaaDoor
open Go Go.RowKit

/-- A record at eleven cells. -/
def RecAt (w : World) (b o : Nat) (r : RecV) : Prop :=
  w.cell? ⟨b, o, none⟩ = some (.int .i64 r.kind) ∧ w.cell? ⟨b, o + 1, none⟩ = some (V r.floor) ∧ w.cell? ⟨b, o + 2, none⟩ = some (.string ⟨r.key.toArray⟩) ∧ w.cell? ⟨b, o + 3, none⟩ = some (.int .i64 r.pk) ∧ w.cell? ⟨b, o + 4, none⟩ = some (V r.gap) ∧ w.cell? ⟨b, o + 5, none⟩ = some (V r.slack) ∧
    w.cell? ⟨b, o + 6, none⟩ = some (V r.limit) ∧ w.cell? ⟨b, o + 7, none⟩ = some (V r.span) ∧ w.cell? ⟨b, o + 8, none⟩ = some (V r.tat) ∧ w.cell? ⟨b, o + 9, none⟩ = some (V r.idx) ∧ w.cell? ⟨b, o + 10, none⟩ = some (V r.cnt)
theorem RecAt.up {w w' : World} {b o : Nat} {r : RecV} (h : RecAt w b o r) (u : Up w w') : RecAt w' b o r := by
  have hl : b < w.heap.size := World.block_lt_of_cell? w _ h.1
  have k : ∀ j v, w.cell? ⟨b, j, none⟩ = some v → w'.cell? ⟨b, j, none⟩ = some v := fun j v e => (u.cell hl).trans e
  obtain ⟨c0, c1, c2, c3, c4, c5, c6, c7, c8, c9, c10⟩ := h
  exact ⟨k _ _ c0, k _ _ c1, k _ _ c2, k _ _ c3, k _ _ c4, k _ _ c5, k _ _ c6, k _ _ c7, k _ _ c8, k _ _ c9, k _ _ c10⟩
/-- A slice reads as records. -/
def SlR (w : World) (v : Value) (rs : List RecV) : Prop := ∃ ao cap, v = .slice ao rs.length cap ∧ rs.length ≤ cap ∧ (ao = none → cap = 0) ∧ (rs ≠ [] → ∃ b o, ao = some ⟨b, o, none⟩ ∧ ∀ i (h : i < rs.length), RecAt w b (o + i * 11) rs[i])
theorem SlR.up {w w' : World} {v : Value} {rs : List RecV} (h : SlR w v rs) (u : Up w w') : SlR w' v rs := by
  obtain ⟨ao, cap, rfl, hc, hn, hx⟩ := h
  refine ⟨ao, cap, rfl, hc, hn, fun hb => ?_⟩
  obtain ⟨b, o, rfl, ha⟩ := hx hb
  exact ⟨b, o, rfl, fun i hi => (ha i hi).up u⟩
theorem SlR.shape {w : World} {v : Value} {rs : List RecV} (h : SlR w v rs) : ∃ ao cap, v = .slice ao rs.length cap := by obtain ⟨ao, cap, rfl, _⟩ := h; exact ⟨_, _, rfl⟩

/-- What run, Apply and Replay answer. -/
def RunPost (ad : Nat → Addr) (w : World) (o : Except Flw StV) (e : Ending) (w' : World) : Prop :=
  match o with
  | .error x => e = .returned (.tuple #[.agg #[Z, Z, .slice none 0 0], E (ad (gOf x))]) ∧ Up w w'
  | .ok t => ∃ v', e = .returned (.tuple #[.agg #[V t.lsn, V t.floor, v'], .nilIface]) ∧ OwnE w' w.heap.size v' t.keys ∧ Up w w'

/-- The state that is changed from record to record, in its box, with its row. -/
def RunAt (w u : World) (B : Nat) (s : StV) : Prop := ∃ v, Box u B #[V s.lsn, V s.floor, v] ∧ OwnE u (B + 2) v s.keys ∧ Box u (B + 1) #[Z, Z, .slice none 0 0] ∧ Up w u

set_option maxRecDepth 20000 in
set_option maxHeartbeats 3200000 in
theorem run_any (v : Value) (l f first : Nat) (xs : List Ent) (vr : Value) (rs : List RecV) (ad : Nat → Addr) (w : World) (h : SlE w v xs) (hr : SlR w vr rs) (hs : OkS ⟨l, f, xs⟩) (hf : first < 18446744073709551616) (hrl : rs.length ≤ 140737488355328) (hk : ErrSet stErrs errTxt w ad) :
    Calls Tryd.prog 32 #[.agg #[V l, V f, v], V first, vr] w (RunPost ad w (runS ⟨l, f, xs⟩ first rs)) := by
  have HC : Hid (∀ u, Up w u → Calls Tryd.prog 40 #[.agg #[V l, V f, v]] u fun e w' => ∃ v', e = .returned (.agg #[V l, V f, v']) ∧ OwnE w' u.heap.size v' xs ∧ Up u w') := fun u uu => copyOf_any v l f xs u (h.up uu) (by have : xs.length ≤ 4096 := hs.len; omega) (fun x hx => by have := (hs.each x hx).2.1; omega)
  have HST : Hid (∀ (sb base : Nat) (s : StV) (n : Nat) (v : Value) (r : RecV) (u : World), Up w u → Box u sb #[V s.lsn, V s.floor, v] → OwnE u base v s.keys → OkS s → n < 18446744073709551616 → sb < base → base ≤ u.heap.size → Calls Tryd.prog 41 #[.pointer (some ⟨sb, 0, none⟩), V n, RV r] u (StepPost sb base v ad u (stepS s n r))) :=
    fun sb base s n v r u uu hb ho hs hn h1 h2 => step_any sb base s.lsn s.floor n v s.keys r ad u (hk.up uu) hb ho hs hn h1 h2
  obtain ⟨a0, c0, rfl⟩ := h.shape
  obtain ⟨N0, hN0⟩ : ∃ N, xs.length = N := ⟨_, rfl⟩
  obtain ⟨ao, cr, rfl, hcr, hcn, hrx⟩ := hr
  obtain ⟨N, hN⟩ : ∃ N, rs.length = N := ⟨_, rfl⟩
  have HN : Hid (rs.length = N) := hN
  have HX : Hid (rs ≠ [] → ∃ b o, ao = some ⟨b, o, none⟩ ∧ ∀ i (h : i < rs.length), RecAt w b (o + i * 11) rs[i]) := hrx
  have HS : Hid (OkS ⟨l, f, xs⟩) := hs
  obtain ⟨R, hR⟩ : ∃ R, runS ⟨l, f, xs⟩ first rs = R := ⟨_, rfl⟩
  have HR : Hid (runS ⟨l, f, xs⟩ first rs = R) := hR
  rw [hR, hN]
  rw [hN0] at HC ⊢
  rw [hN] at hrl
  have hrl1 : (N : Int) ≤ 140737488355328 := by omega
  have hf1 : (first : Int) < 18446744073709551616 := by omega
  clear h hs hk hN0 hN hrx hcr hcn hR
  obtain ⟨B, hB⟩ : ∃ B, w.heap.size = B := ⟨_, rfl⟩
  have HB : Hid (w.heap.size = B) := hB
  have b0 : Box ((w.alloc (.cells #[V l, V f, .slice a0 N0 c0] 27)).alloc (.cells #[Z, Z, .slice none 0 0] 27)) w.heap.size #[V l, V f, .slice a0 N0 c0] := (Box.new _ _ _).alloc _
  have b1 : Box ((w.alloc (.cells #[V l, V f, .slice a0 N0 c0] 27)).alloc (.cells #[Z, Z, .slice none 0 0] 27)) (w.heap.size + 1) #[Z, Z, .slice none 0 0] := Box.newAt (by simp)
  have u0 : Up w ((w.alloc (.cells #[V l, V f, .slice a0 N0 c0] 27)).alloc (.cells #[Z, Z, .slice none 0 0] 27)) := (Up.alloc _ _).trans (Up.alloc _ _)
  have hsz : ((w.alloc (.cells #[V l, V f, .slice a0 N0 c0] 27)).alloc (.cells #[Z, Z, .slice none 0 0] 27)).heap.size = w.heap.size + 2 := by simp
  rw [hB] at b0 b1 hsz
  go_enter Tryd.func32, Tryd.ntmps32
  go_upto_region 1 with fail
  clear hB
  generalize (w.alloc (.cells #[V l, V f, .slice a0 N0 c0] 27)).alloc (.cells #[Z, Z, .slice none 0 0] 27) = w0 at *
  obtain ⟨d0, d1, d2⟩ := b0.c3
  go_wp2_with fail
  refine (HC.out w0 u0).mono ?_
  rintro e w1 ⟨v', rfl, ho, u1⟩
  rw [hsz] at ho
  have b0' := b0.up u1
  have b1' := b1.up u1
  have U1 : Hid (Up w w1) := u0.trans u1
  obtain ⟨a1, M, c1, rfl⟩ : ∃ a1 M c1, v' = .slice a1 M c1 := by obtain ⟨a1, c1, e⟩ := ho.shape; exact ⟨_, _, _, e⟩
  clear d0 d1 d2 b0 b1 u0 u1 hsz HC
  obtain ⟨d0, d1, d2⟩ := b0'.c3
  have f0 := b0'.frozen 0
  have f1 := b0'.frozen 1
  have f2 := b0'.frozen 2
  go_upto_region 2 with fail
  have b2 : Box (((w1.setCell ⟨B, 0, none⟩ (V l)).setCell ⟨B, 1, none⟩ (V f)).setCell ⟨B, 2, none⟩ (.slice a1 M c1)) B #[V l, V f, .slice a1 M c1] := Box.set3 b0'
  have t2 : Touch w1 (((w1.setCell ⟨B, 0, none⟩ (V l)).setCell ⟨B, 1, none⟩ (V f)).setCell ⟨B, 2, none⟩ (.slice a1 M c1)) [B] := (((Touch.refl _ _).setCell (.inl (by simp)) _ _).setCell (.inl (by simp)) _ _).setCell (.inl (by simp)) _ _
  have b3 := Touch.box b1' t2 (by simp)
  have o2 := ho.kept t2 (fun k hk => by have := (ho.ge k hk).1; simp; omega)
  have U2 := Touch.up (S := [B]) ((Touch.of_up U1.out [B]).trans t2 (fun k hk => .inl hk)) (fun k hk => by simp at hk; have := HB.out; omega)
  generalize World.setCell (World.setCell (World.setCell _ _ _) _ _) _ _ = w2 at b2 b3 o2 U2 ⊢
  have HA : Hid (RunAt w w2 B ⟨l, f, xs⟩) := ⟨_, b2, o2, b3, U2⟩
  clear b0' b1' ho t2 d0 d1 d2 f0 f1 f2 U1 b2 b3 o2 U2
  go_wp2
  go_loopg [15] N (fun g s15 wr => ∃ (i : Nat) (s : StV), i ≤ N ∧ g = N - i ∧ s15 = .int .i64 i ∧ Hid (RunAt w wr B s) ∧ Hid (OkS s ∧ R = runS s (first + i) (rs.drop i) ∧ (i = 0 ∨ first + i = s.lsn + 1)))
  case atStart => exact ⟨0, ⟨l, f, xs⟩, by omega, rfl, rfl, HA, HS.out, HR.out.symm, .inl rfl⟩
  case round =>
    clear HA
    obtain ⟨i, s, hi, rfl, rfl, HA, HI⟩ := hrel
    by_cases hlt : i < N
    · have hm : i < rs.length := by rw [HN.out]; exact hlt
      obtain ⟨b, o, rfl, ha⟩ := HX.out (by rintro rfl; simp at hm)
      obtain ⟨v0, x1, x2, x3, x4⟩ := HA.out
      obtain ⟨hok, hrun, hnum⟩ := HI.out
      have hlsn := hok.lsn
      have hnn : first + i < 18446744073709551616 := by rcases hnum with h | h <;> omega
      have hw : IntKind.u64.wrap ((first : Int) + (i : Int)) = ((first + i : Nat) : Int) := by rw [IntKind.wrap_u64]; omega
      have hat := (ha i hm).up x4
      have hcons : rs.drop i = rs[i] :: rs.drop (i + 1) := List.drop_eq_getElem_cons hm
      have HD : Hid (N - (i + 1) < N - i ∧ i < N) := ⟨by omega, hlt⟩
      generalize rs[i] = r at hat hcons
      rw [hcons, runS] at hrun
      have HU : Hid (Up w wr) := x4
      have ua : Up wr (wr.alloc (.cells #[.int .i64 r.kind, V r.floor, .string ⟨r.key.toArray⟩, .int .i64 r.pk, V r.gap, V r.slack, V r.limit, V r.span, V r.tat, V r.idx, V r.cnt] 39)) := Up.alloc _ _
      have bR : Box (wr.alloc (.cells #[.int .i64 r.kind, V r.floor, .string ⟨r.key.toArray⟩, .int .i64 r.pk, V r.gap, V r.slack, V r.limit, V r.span, V r.tat, V r.idx, V r.cnt] 39)) wr.heap.size #[.int .i64 r.kind, V r.floor, .string ⟨r.key.toArray⟩, .int .i64 r.pk, V r.gap, V r.slack, V r.limit, V r.span, V r.tat, V r.idx, V r.cnt] := Box.new _ _ _
      have hge : B + 2 ≤ wr.heap.size := by have := x3.lt; omega
      have key := HST.out B (B + 2) s (first + i) v0 r _ (x4.trans ua) (x1.up ua) (x2.up ua) hok hnn (by omega) (Nat.le_trans hge ua.size)
      have hob : ∀ k ∈ ob v0, B + 2 ≤ k := fun k hk => (x2.ge k hk).1
      have x3' := x3.up ua
      clear ha hcons hge x1 x2 x3 HX
      obtain ⟨c0, c1, c2, c3, c4, c5, c6, c7, c8, c9, c10⟩ := hat
      go_upto_region 5 with fail
      generalize wr.alloc (.cells #[.int .i64 r.kind, V r.floor, .string ⟨r.key.toArray⟩, .int .i64 r.pk, V r.gap, V r.slack, V r.limit, V r.span, V r.tat, V r.idx, V r.cnt] 39) = w3 at *
      generalize wr.heap.size = rb at *
      clear c0 c1 c2 c3 c4 c5 c6 c7 c8 c9 c10
      obtain ⟨c0, c1, c2, c3, c4, c5, c6, c7, c8, c9, c10⟩ := bR.c11
      have U3 : Hid (Up w w3) := x4.trans ua
      have X3 : Hid (Box w3 (B + 1) #[Z, Z, .slice none 0 0]) := x3'
      have HNUM : Hid (i = 0 ∨ first + i = s.lsn + 1) := hnum
      clear bR x4 ua x3' hnum hlsn hlt hm HI HA
      cases hst : stepS s (first + i) r with
      | error x =>
        rw [hst] at key hrun
        have hfin : R = .error x := hrun
        subst hfin
        clear hst HR hrun
        go_wp2_with fail
        refine key.mono ?_
        rintro e w4 ⟨rfl, u4⟩
        have b4 := X3.out.up u4
        have U4 := U3.out.trans u4
        obtain ⟨y0, y1, y2⟩ := b4.c3
        have f0 := b4.frozen 0
        have f1 := b4.frozen 1
        have f2 := b4.frozen 2
        have HB4 : Hid (Box w4 (B + 1) #[Z, Z, .slice none 0 0] ∧ Up w w4) := ⟨b4, U4⟩
        clear b4 U4 u4 key
        go_wp2_with fail
        have bR := Box.set3 (x := Z) (y := Z) (z := .slice none 0 0) HB4.out.1
        have UR := Up.set3 HB4.out.2 (by have := HB.out; omega : w.heap.size ≤ B + 1) Z Z (.slice none 0 0)
        generalize World.setCell (World.setCell (World.setCell _ _ _) _ _) _ _ = w6 at bR UR ⊢
        obtain ⟨g0, g1, g2⟩ := bR.c3
        exact bodyPost_ret (v := .tuple #[.agg #[Z, Z, .slice none 0 0], E (ad (gOf x))]) (by simp [results, Tryd.results32, go_sem, g0, g1, g2]) rfl ⟨rfl, UR⟩
      | ok t =>
        rw [hst] at key hrun
        have hrun' : R = runS t (first + i + 1) (rs.drop (i + 1)) := hrun
        have hl2 := step_lsn hst
        have HT : Hid (OkS t ∧ R = runS t (first + (i + 1)) (rs.drop (i + 1)) ∧ (i + 1 = 0 ∨ first + (i + 1) = t.lsn + 1)) := ⟨step_ok hok hst, by rw [show first + (i + 1) = first + i + 1 by omega]; exact hrun', .inr (by omega)⟩
        clear hst hrun hrun' hl2
        go_wp2_with fail
        refine key.mono ?_
        rintro e w4 ⟨rfl, v4, b4, o4, t4⟩
        have HR4 : Hid (RunAt w w4 B t) := ⟨v4, b4, o4, Touch.box X3.out t4 (by
          simp only [List.mem_cons, not_or]
          refine ⟨by omega, fun hm => ?_⟩
          have := hob _ hm
          omega), Touch.up (S := B :: ob v0) ((Touch.of_up U3.out _).trans t4 (fun k hk => .inl hk)) (fun k hk => by
          have hb := HB.out
          rcases List.mem_cons.1 hk with rfl | hk
          · omega
          · have := hob k hk; omega)⟩
        clear b4 o4 t4 key
        go_wp2
        go_roundg (N - (i + 1))
        case measure => exact HD.out.1
        case rel => exact ⟨i + 1, t, HD.out.2, rfl, by go_num, HR4.out, HT.out⟩
    · obtain rfl : i = N := by omega
      obtain ⟨v0, x1, x2, x3, x4⟩ := HA.out
      obtain ⟨hok, hrun, hnum⟩ := HI.out
      rw [List.drop_of_length_le (by rw [HN.out]; exact Nat.le_refl _), runS] at hrun
      subst hrun
      obtain ⟨a2, M2, c2, rfl⟩ : ∃ a1 M c1, v0 = .slice a1 M c1 := by obtain ⟨a1, c1, e⟩ := x2.shape; exact ⟨_, _, _, e⟩
      have HZ : Hid (Box wr (B + 1) #[Z, Z, .slice none 0 0] ∧ Up w wr ∧ OwnE wr (B + 2) (.slice a2 M2 c2) s.keys) := ⟨x3, x4, x2⟩
      obtain ⟨d0, d1, d2⟩ := x1.c3
      obtain ⟨y0, y1, y2⟩ := x3.c3
      have f0 := x3.frozen 0
      have f1 := x3.frozen 1
      have f2 := x3.frozen 2
      clear x1 x2 x3 x4 hnum HA HI HX HST
      go_wp2_with fail
      have bR : Box (((wr.setCell ⟨B + 1, 0, none⟩ (V s.lsn)).setCell ⟨B + 1, 1, none⟩ (V s.floor)).setCell ⟨B + 1, 2, none⟩ (.slice a2 M2 c2)) (B + 1) #[V s.lsn, V s.floor, .slice a2 M2 c2] := Box.set3 HZ.out.1
      have UR : Up w (((wr.setCell ⟨B + 1, 0, none⟩ (V s.lsn)).setCell ⟨B + 1, 1, none⟩ (V s.floor)).setCell ⟨B + 1, 2, none⟩ (.slice a2 M2 c2)) := Up.set3 HZ.out.2.1 (by have := HB.out; omega) _ _ _
      have TR : Touch wr (((wr.setCell ⟨B + 1, 0, none⟩ (V s.lsn)).setCell ⟨B + 1, 1, none⟩ (V s.floor)).setCell ⟨B + 1, 2, none⟩ (.slice a2 M2 c2)) [B + 1] := (((Touch.refl _ _).setCell (.inl (by simp)) _ _).setCell (.inl (by simp)) _ _).setCell (.inl (by simp)) _ _
      have OR := HZ.out.2.2.kept TR (fun j hj => by have := (HZ.out.2.2.ge j hj).1; simp; omega)
      generalize World.setCell (World.setCell (World.setCell _ _ _) _ _) _ _ = w6 at bR UR OR ⊢
      obtain ⟨g0, g1, g2⟩ := bR.c3
      exact bodyPost_ret (v := .tuple #[.agg #[V s.lsn, V s.floor, .slice a2 M2 c2], .nilIface]) (by simp [results, Tryd.results32, go_sem, g0, g1, g2]) rfl ⟨_, rfl, OR.rebase (by have := HB.out; omega), UR⟩
end Go.Proofs.YtdddfapelencoaaDoor

set_option linter.unusedVariables false
set_option linter.unusedSimpArgs false
namespace Go.Proofs.YtdddfapelencoaaDoor
open Go Go.RowKit

set_option maxRecDepth 20000 in
set_option maxHeartbeats 1600000 in
theorem Valid_rows (ao : Option Addr) (cap l f : Nat) (xs : List Ent) (w : World) (hx : xs ≠ [] → ∃ b o, ao = some ⟨b, o, none⟩ ∧ EntsAt w b o xs) (hl : xs.length ≤ 4096) (h1 : ¬ 4611686018427387904 < l) (q : Bool) (hq : okFrom noKey xs = q) :
    Calls Tryd.prog 8 #[.agg #[V l, V f, .slice ao xs.length cap]] w fun e w' => e = .returned (.bool q) ∧ Up w w' := by
  obtain ⟨N, hN⟩ : ∃ N, xs.length = N := ⟨_, rfl⟩
  have HN : Hid (xs.length = N) := hN
  have HX : Hid (xs ≠ [] → ∃ b o, ao = some ⟨b, o, none⟩ ∧ EntsAt w b o xs) := hx
  have HQ : Hid (okFrom noKey xs = q) := hq
  rw [hN] at hl ⊢
  have hl2 : ¬ (4096 : Int) < (N : Int) := by omega
  have h1' : ¬ (4611686018427387904 : Int) < (l : Int) := by omega
  have h1'' : ¬ (4611686018427387904 : Nat) < l := h1
  have hl3 : (N : Int) ≤ 4096 := by omega
  clear hN hx hq hl h1
  go_enter Tryd.func8, Tryd.ntmps8
  go_wp2
  go_loopg [3, 18] N (fun g s3 s18 wr => ∃ (i : Nat) (last : ByteArray), i ≤ N ∧ g = N - i ∧ s3 = .string last ∧ s18 = .int .i64 i ∧ Hid (Up w wr) ∧ Hid (okFrom noKey xs = okFrom last (xs.drop i)))
  case atStart => exact ⟨0, noKey, by omega, rfl, rfl, rfl, Up.alloc _ _, rfl⟩
  case round =>
    obtain ⟨i, last, hi, rfl, rfl, rfl, HU, HI⟩ := hrel
    by_cases hlt : i < N
    · have hm : i < xs.length := by rw [HN.out]; exact hlt
      obtain ⟨b, o, rfl, ha⟩ := HX.out (by rintro rfl; simp at hm)
      obtain ⟨c0, c1, c2, c3, c4, c5, c6, c7, c8⟩ := (ha.block fun hl => HU.out.block b hl).at _ hm
      have H2 : Hid (q = okFrom last (xs[i] :: xs.drop (i + 1))) := by
        show _ = _
        rw [← HQ.out, HI.out, List.drop_eq_getElem_cons hm]
      have HD : Hid (N - (i + 1) < N - i) := by show _ < _; omega
      generalize xs[i] = x at c0 c1 c2 c3 c4 c5 c6 c7 c8 H2
      have hc := fun u => fits_call x.2.1 x.2.2 u
      obtain ⟨S, ⟨pk, pg, ps, pq, pp⟩, lt, li, lc⟩ := x
      simp only at c0 c1 c2 c3 c4 c5 c6 c7 c8 hc
      obtain ⟨z, hz⟩ : ∃ z, pFits ⟨pk, pg, ps, pq, pp⟩ ⟨lt, li, lc⟩ = z := ⟨_, rfl⟩
      have HZ : Hid (pFits ⟨pk, pg, ps, pq, pp⟩ ⟨lt, li, lc⟩ = z) := hz
      rw [hz] at hc
      clear hz ha hm
      have B9 : Box (wr.alloc (.cells #[.string S, .int .i64 pk, V pg, V ps, V pq, V pp, V lt, V li, V lc] 58)) wr.heap.size #[.string S, .int .i64 pk, V pg, V ps, V pq, V pp, V lt, V li, V lc] := Box.new _ _ _
      have U9 : Up wr (wr.alloc (.cells #[.string S, .int .i64 pk, V pg, V ps, V pq, V pp, V lt, V li, V lc] 58)) := Up.alloc _ _
      go_upto_region 7 with fail
      generalize wr.alloc (.cells #[.string S, .int .i64 pk, V pg, V ps, V pq, V pp, V lt, V li, V lc] 58) = W9 at B9 U9 ⊢
      obtain ⟨d0, d1, d2, d3, d4, d5, d6, d7, d8⟩ := B9.c9
      have HU9 : Hid (Up w W9) := HU.out.trans U9
      have HB9 : Hid (Box W9 wr.heap.size #[.string S, .int .i64 pk, V pg, V ps, V pq, V pp, V lt, V li, V lc]) := B9
      clear c0 c1 c2 c3 c4 c5 c6 c7 c8 U9 B9
      cases hk : kl last S with
      | false =>
        have hfin : q = false := by rw [H2.out]; simp [okFrom, hk]
        subst hfin
        clear H2 HI HQ hc
        cases hk2 : kl S last with
        | true =>
          go_wp2
          go_ret
          exact ⟨rfl, HU9.out⟩
        | false =>
          have hkk : (S.toList == last.toList) = true := by rw [kl_tri hk2 hk]; simp
          go_wp2
          go_ret
          exact ⟨rfl, HU9.out⟩
      | true =>
        have hk2 : kl S last = false := kl_asymm hk
        have hkk : (S.toList == last.toList) = false := beq_ne (fun e => kl_ne hk e.symm)
        by_cases h64 : (64 : Int) < (S.size : Int)
        · have hfin : q = false := by rw [H2.out]; simp [okFrom]; omega
          subst hfin
          clear H2 HI HQ hc
          go_wp2
          go_ret
          exact ⟨rfl, HU9.out⟩
        · cases z with
          | false =>
            have hfin : q = false := by rw [H2.out]; simp [okFrom, HZ.out]
            subst hfin
            clear H2 HI HQ HZ
            go_wp2_with fail
            refine (hc _).mono ?_
            rintro e w1 ⟨rfl, u1⟩
            go_wp2
            go_ret
            exact ⟨rfl, HU9.out.trans u1⟩
          | true =>
            go_wp2_with fail
            refine (hc _).mono ?_
            rintro e w1 ⟨rfl, u1⟩
            have UU : Hid (Up w w1) := HU9.out.trans u1
            have cS : w1.cell? ⟨wr.heap.size, 0, none⟩ = some (.string S) := (HB9.out.up u1).cell 0
            go_wp2
            go_roundg (N - (i + 1))
            case measure => exact HD.out
            case rel => exact ⟨i + 1, S, by omega, rfl, rfl, by go_num, UU.out, by
              show _ = _
              rw [HQ.out, H2.out]
              simp only [okFrom, hk, HZ.out, Bool.true_and, Bool.and_true]
              rw [decide_eq_true (by omega), Bool.true_and]⟩
    · obtain rfl : i = N := by omega
      have hfin : q = true := by rw [← HQ.out, HI.out, List.drop_of_length_le (by rw [HN.out]; exact Nat.le_refl _)]; rfl
      subst hfin
      clear HI HQ HX HN
      go_wp2
      go_ret
      exact ⟨rfl, HU.out⟩

theorem Valid_any (v : Value) (l f : Nat) (xs : List Ent) (w : World) (h : SlE w v xs) (hl : xs.length ≤ 4611686018427387903) :
    Calls Tryd.prog 8 #[.agg #[V l, V f, v]] w fun e w' => e = .returned (.bool (okS ⟨l, f, xs⟩)) ∧ Up w w' := by
  obtain ⟨ao, cap, rfl, hc, hn, hx⟩ := h
  by_cases h1 : 4611686018427387904 < l
  · have e : okS ⟨l, f, xs⟩ = false := by unfold okS; rw [decide_eq_false (show ¬ l ≤ 4611686018427387904 by omega)]; rfl
    rw [e]
    obtain ⟨N, hN⟩ : ∃ N, xs.length = N := ⟨_, rfl⟩
    rw [hN]
    have h1' : (4611686018427387904 : Int) < (l : Int) := by omega
    have h1'' : (4611686018427387904 : Nat) < l := h1
    clear hx hn hc hN e h1
    go_enter Tryd.func8, Tryd.ntmps8
    go_wp2
    go_ret
    exact ⟨rfl, Up.alloc _ _⟩
  · by_cases h2 : xs.length ≤ 4096
    · have e : okS ⟨l, f, xs⟩ = okFrom noKey xs := by unfold okS; rw [decide_eq_true (show l ≤ 4611686018427387904 by omega), decide_eq_true h2]; rfl
      exact Valid_rows ao cap l f xs w hx h2 h1 _ e.symm
    · have e : okS ⟨l, f, xs⟩ = false := by unfold okS; rw [decide_eq_false h2]; simp
      rw [e]
      obtain ⟨N, hN⟩ : ∃ N, xs.length = N := ⟨_, rfl⟩
      rw [hN] at h2 hl ⊢
      have h1' : ¬ (4611686018427387904 : Int) < (l : Int) := by omega
      have h1'' : ¬ (4611686018427387904 : Nat) < l := h1
      have h2' : (4096 : Int) < (N : Int) := by omega
      have hl3 : (N : Int) ≤ 4611686018427387903 := by omega
      clear hx hn hc hN e h1 h2 hl
      go_enter Tryd.func8, Tryd.ntmps8
      go_wp2
      go_ret
      exact ⟨rfl, Up.alloc _ _⟩
end Go.Proofs.YtdddfapelencoaaDoor

set_option linter.unusedVariables false
set_option linter.unusedSimpArgs false
namespace Go.Proofs.YtdddfapelencoaaDoor
open Go Go.RowKit

theorem run_one (s : StV) (n : Nat) (r : RecV) : runS s n [r] = stepS s n r := by
  unfold runS
  cases stepS s n r with
  | error e => rfl
  | ok t => rfl
theorem Gl.other {w : World} {g k : Nat} {a : Addr} (h : Gl w g a) (hne : k ≠ g) (i : Nat) (v : Value) : Gl (w.setCell ⟨k, i, none⟩ v) g a := by
  obtain ⟨t, h⟩ := h
  refine ⟨t, ?_⟩
  rw [heap_setCell_other _ ⟨k, i, none⟩ _ _ (fun e => hne e.symm)]
  exact h
/-- What is left of a slice of records. -/
theorem SlR.dropped {w : World} {ao : Option Addr} {c k : Nat} {rs : List RecV} (h : SlR w (.slice ao rs.length c) rs) (hk : k ≤ rs.length) :
    (c = k → SlR w (.slice ao 0 0) (rs.drop k)) ∧ (c ≠ k → ∃ ad, ao = some ad ∧ SlR w (.slice (some (ad.add (k * 11))) (rs.length - k) (c - k)) (rs.drop k)) := by
  obtain ⟨ao', cap, e, hc, hn, hx⟩ := h
  simp only [Value.slice.injEq] at e
  obtain ⟨rfl, _, rfl⟩ := e
  refine ⟨fun e => ?_, fun e => ?_⟩
  · have h0 : rs.length = k := by omega
    rw [List.drop_of_length_le (by omega)]
    exact ⟨ao, 0, rfl, Nat.le_refl _, fun _ => rfl, fun hne => absurd rfl hne⟩
  · cases ao with
    | none => have := hn rfl; omega
    | some ad =>
      refine ⟨ad, rfl, some (ad.add (k * 11)), c - k, by rw [List.length_drop], by rw [List.length_drop]; omega, (by intro e; cases e), fun hne => ?_⟩
      have hne' : rs ≠ [] := by rintro rfl; simp at hne
      obtain ⟨b, o, e1, ha⟩ := hx hne'
      obtain rfl := Option.some.inj e1
      refine ⟨b, o + k * 11, by rw [Addr.add_lit], fun i hi => ?_⟩
      rw [List.length_drop] at hi
      have := ha (k + i) (by omega)
      rw [List.getElem_drop, show o + k * 11 + i * 11 = o + (k + i) * 11 by omega]
      exact this

set_option maxRecDepth 20000 in
set_option maxHeartbeats 3200000 in
theorem Apply_none (a0 : Option Addr) (N0 c0 l f n : Nat) (k : Int) (fl : Nat) (S : ByteArray) (pk : Int) (rg rs rl rp rt ri rc : Nat) (w : World) (a : Addr) (hg : Gl w 1 a)
    (hV : ∀ u, Up w u → Calls Tryd.prog 8 #[.agg #[V l, V f, .slice a0 N0 c0]] u fun e w' => e = .returned (.bool false) ∧ Up u w') :
    Calls Tryd.prog 14 #[.agg #[V l, V f, .slice a0 N0 c0], V n, RcV k fl S pk rg rs rl rp rt ri rc] w fun e w' => e = .returned (.tuple #[.agg #[Z, Z, .slice none 0 0], E a]) ∧ Up w w' := by
  have HV : Hid (∀ u, Up w u → Calls Tryd.prog 8 #[.agg #[V l, V f, .slice a0 N0 c0]] u fun e w' => e = .returned (.bool false) ∧ Up u w') := hV
  clear hV
  obtain ⟨B, hB⟩ : ∃ B, w.heap.size = B := ⟨_, rfl⟩
  have HB : Hid (w.heap.size = B) := hB
  have u0 : Up w (((w.alloc (.cells #[V l, V f, .slice a0 N0 c0] 27)).alloc (.cells #[.int .i64 k, V fl, .string S, .int .i64 pk, V rg, V rs, V rl, V rp, V rt, V ri, V rc] 39)).alloc (.cells #[Z, Z, .slice none 0 0] 27)) := ((Up.alloc _ _).trans (Up.alloc _ _)).trans (Up.alloc _ _)
  have b0 : Box (((w.alloc (.cells #[V l, V f, .slice a0 N0 c0] 27)).alloc (.cells #[.int .i64 k, V fl, .string S, .int .i64 pk, V rg, V rs, V rl, V rp, V rt, V ri, V rc] 39)).alloc (.cells #[Z, Z, .slice none 0 0] 27)) w.heap.size #[V l, V f, .slice a0 N0 c0] := ((Box.new _ _ _).alloc _).alloc _
  have b1 : Box (((w.alloc (.cells #[V l, V f, .slice a0 N0 c0] 27)).alloc (.cells #[.int .i64 k, V fl, .string S, .int .i64 pk, V rg, V rs, V rl, V rp, V rt, V ri, V rc] 39)).alloc (.cells #[Z, Z, .slice none 0 0] 27)) (w.heap.size + 2) #[Z, Z, .slice none 0 0] := Box.newAt (by simp)
  rw [hB] at b0 b1
  go_enter Tryd.func14, Tryd.ntmps14
  go_upto_region 1 with fail
  clear hB
  generalize ((w.alloc (.cells #[V l, V f, .slice a0 N0 c0] 27)).alloc (.cells #[.int .i64 k, V fl, .string S, .int .i64 pk, V rg, V rs, V rl, V rp, V rt, V ri, V rc] 39)).alloc (.cells #[Z, Z, .slice none 0 0] 27) = w0 at *
  obtain ⟨s0, s1, s2⟩ := b0.c3
  go_wp2_with fail
  refine (HV.out _ u0).mono ?_
  rintro e w1 ⟨rfl, u1⟩
  have hU := u0.trans u1
  replace b1 := b1.up u1
  clear s0 s1 s2 b0 u0 u1 HV
  have hgl := (hg.up hU).up (Up.drew w1)
  have bz := b1.up (Up.drew w1)
  replace hU := hU.trans (Up.drew w1)
  have hgne : B + 2 ≠ 1 := by have := hg.lt; have := HB.out; omega
  have HG : Hid (B + 2 ≠ 1) := hgne
  clear hgne hg b1
  go_upto_region 2 with fail
  refine wp_region_held_drew (S := fun u => Gl u 1 a) (by kernel_rfl) hgl (fun hs0 => ?_)
  clear hs0
  generalize w1.drew = wd at *
  refine take_to (some 11) (i := 0) (v := .agg #[.int .u64 0, .int .u64 0, .slice none 0 0]) rfl rfl (by kernel_rfl) (by kernel_rfl) (by kernel_rfl) (fun _ _ _ h => h) (Or.inl ⟨by kernel_rfl, by intro u hSu; go_simp⟩) hgl ?_
  simp only [Act.put, List.setIfInBounds_toArray, List.set_cons_zero, List.set_cons_succ]
  refine take_to (some 12) (i := 1) (v := E a) rfl rfl (by kernel_rfl) (by kernel_rfl) (by kernel_rfl) (fun _ _ _ h => h) (Or.inl ⟨by kernel_rfl, by intro u hSu; have q := Gl.cell hSu; go_simp⟩) hgl ?_
  simp only [Act.put, List.setIfInBounds_toArray, List.set_cons_zero, List.set_cons_succ]
  obtain ⟨y0, y1, y2⟩ := bz.c3
  have f0 := bz.frozen 0
  have f1 := bz.frozen 1
  have f2 := bz.frozen 2
  refine wpAnyH_ready (rs := [2]) (by kernel_rfl) (by simp) ?_
  refine AllReadyH.cons rfl (fun K hK => ?_) AllReadyH.nil
  go_simp
  have g3 : Gl (((wd.setCell ⟨B + 2, 0, none⟩ Z).setCell ⟨B + 2, 1, none⟩ Z).setCell ⟨B + 2, 2, none⟩ (.slice none 0 0)) 1 a := ((hgl.other HG.out _ _).other HG.out _ _).other HG.out _ _
  refine hK.out _ _ g3 (fun _ => ?_)
  clear hK K y0 y1 y2 f0 f1 f2
  have bR := Box.set3 (x := Z) (y := Z) (z := .slice none 0 0) bz
  have UR := Up.set3 hU (by have := HB.out; omega : w.heap.size ≤ B + 2) Z Z (.slice none 0 0)
  generalize World.setCell (World.setCell (World.setCell _ _ _) _ _) _ _ = w6 at bR UR g3 ⊢
  refine wpAnyH_ready (rs := [3]) (by kernel_rfl) (by simp) ?_
  refine AllReadyH.cons rfl (fun K hK => ?_) AllReadyH.nil
  go_simp
  refine hK.out _ _ g3 (fun _ => ?_)
  clear hK K
  refine wpAnyH_done (by kernel_rfl) ?_ _
  go_wp2_with fail
  obtain ⟨g0, g1, g2⟩ := bR.c3
  exact bodyPost_ret (v := .tuple #[.agg #[Z, Z, .slice none 0 0], E a]) (by simp [results, Tryd.results14, go_sem, g0, g1, g2]) rfl ⟨rfl, UR⟩
set_option maxRecDepth 20000 in
set_option maxHeartbeats 3200000 in
theorem Apply_go (a0 : Option Addr) (N0 c0 l f n : Nat) (k : Int) (fl : Nat) (S : ByteArray) (pk : Int) (rg rs rl rp rt ri rc : Nat) (w : World) (ad : Nat → Addr) (RES : Except Flw StV)
    (hV : ∀ u, Up w u → Calls Tryd.prog 8 #[.agg #[V l, V f, .slice a0 N0 c0]] u fun e w' => e = .returned (.bool true) ∧ Up u w')
    (hR : ∀ u g, Up w u → u.heap[g]? = some (.cells #[.int .i64 k, V fl, .string S, .int .i64 pk, V rg, V rs, V rl, V rp, V rt, V ri, V rc] 39 (0, 0)) → Calls Tryd.prog 32 #[.agg #[V l, V f, .slice a0 N0 c0], V n, .slice (some ⟨g, 0, none⟩) 1 1] u (RunPost ad u RES)) :
    Calls Tryd.prog 14 #[.agg #[V l, V f, .slice a0 N0 c0], V n, RcV k fl S pk rg rs rl rp rt ri rc] w (RunPost ad w RES) := by
  have HV : Hid (∀ u, Up w u → Calls Tryd.prog 8 #[.agg #[V l, V f, .slice a0 N0 c0]] u fun e w' => e = .returned (.bool true) ∧ Up u w') := hV
  have HRUN : Hid (∀ u g, Up w u → u.heap[g]? = some (.cells #[.int .i64 k, V fl, .string S, .int .i64 pk, V rg, V rs, V rl, V rp, V rt, V ri, V rc] 39 (0, 0)) → Calls Tryd.prog 32 #[.agg #[V l, V f, .slice a0 N0 c0], V n, .slice (some ⟨g, 0, none⟩) 1 1] u (RunPost ad u RES)) := hR
  clear hV hR
  obtain ⟨B, hB⟩ : ∃ B, w.heap.size = B := ⟨_, rfl⟩
  have HB : Hid (w.heap.size = B) := hB
  have u0 : Up w (((w.alloc (.cells #[V l, V f, .slice a0 N0 c0] 27)).alloc (.cells #[.int .i64 k, V fl, .string S, .int .i64 pk, V rg, V rs, V rl, V rp, V rt, V ri, V rc] 39)).alloc (.cells #[Z, Z, .slice none 0 0] 27)) := ((Up.alloc _ _).trans (Up.alloc _ _)).trans (Up.alloc _ _)
  have b0 : Box (((w.alloc (.cells #[V l, V f, .slice a0 N0 c0] 27)).alloc (.cells #[.int .i64 k, V fl, .string S, .int .i64 pk, V rg, V rs, V rl, V rp, V rt, V ri, V rc] 39)).alloc (.cells #[Z, Z, .slice none 0 0] 27)) w.heap.size #[V l, V f, .slice a0 N0 c0] := ((Box.new _ _ _).alloc _).alloc _
  have br : Box (((w.alloc (.cells #[V l, V f, .slice a0 N0 c0] 27)).alloc (.cells #[.int .i64 k, V fl, .string S, .int .i64 pk, V rg, V rs, V rl, V rp, V rt, V ri, V rc] 39)).alloc (.cells #[Z, Z, .slice none 0 0] 27)) (w.heap.size + 1) #[.int .i64 k, V fl, .string S, .int .i64 pk, V rg, V rs, V rl, V rp, V rt, V ri, V rc] := (Box.newAt (by simp)).alloc _
  have b1 : Box (((w.alloc (.cells #[V l, V f, .slice a0 N0 c0] 27)).alloc (.cells #[.int .i64 k, V fl, .string S, .int .i64 pk, V rg, V rs, V rl, V rp, V rt, V ri, V rc] 39)).alloc (.cells #[Z, Z, .slice none 0 0] 27)) (w.heap.size + 2) #[Z, Z, .slice none 0 0] := Box.newAt (by simp)
  rw [hB] at b0 b1 br
  go_enter Tryd.func14, Tryd.ntmps14
  go_upto_region 1 with fail
  clear hB
  generalize ((w.alloc (.cells #[V l, V f, .slice a0 N0 c0] 27)).alloc (.cells #[.int .i64 k, V fl, .string S, .int .i64 pk, V rg, V rs, V rl, V rp, V rt, V ri, V rc] 39)).alloc (.cells #[Z, Z, .slice none 0 0] 27) = w0 at *
  obtain ⟨s0, s1, s2⟩ := b0.c3
  go_wp2_with fail
  refine (HV.out _ u0).mono ?_
  rintro e w1 ⟨rfl, u1⟩
  have hU := u0.trans u1
  replace b1 := b1.up u1
  replace b0 := b0.up u1
  replace br := br.up u1
  clear s0 s1 s2 u0 u1 HV
  obtain ⟨s0, s1, s2⟩ := b0.c3
  obtain ⟨r0, r1, r2, r3, r4, r5, r6, r7, r8, r9, r10⟩ := br.c11
  have ua : Up w1 (w1.alloc (.cells #[.int .i64 k, V fl, .string S, .int .i64 pk, V rg, V rs, V rl, V rp, V rt, V ri, V rc] 39)) := Up.alloc _ _
  have key := HRUN.out (w1.alloc (.cells #[.int .i64 k, V fl, .string S, .int .i64 pk, V rg, V rs, V rl, V rp, V rt, V ri, V rc] 39)) w1.heap.size (hU.trans ua) (heap_alloc_new _ _)
  replace b1 := b1.up ua
  replace hU := hU.trans ua
  clear HRUN ua br b0
  cases hres : RES with
  | error x =>
    subst hres
    go_wp2_with fail
    refine key.mono ?_
    rintro e w4 ⟨rfl, u4⟩
    have b4 := b1.up u4
    have U4 := hU.trans u4
    obtain ⟨y0, y1, y2⟩ := b4.c3
    have f0 := b4.frozen 0
    have f1 := b4.frozen 1
    have f2 := b4.frozen 2
    have HB4 : Hid (Box w4 (B + 2) #[Z, Z, .slice none 0 0] ∧ Up w w4) := ⟨b4, U4⟩
    clear b4 U4 u4 key b1 hU
    go_wp2_with fail
    have bR := Box.set3 (x := Z) (y := Z) (z := .slice none 0 0) HB4.out.1
    have UR := Up.set3 HB4.out.2 (by have := HB.out; omega : w.heap.size ≤ B + 2) Z Z (.slice none 0 0)
    generalize World.setCell (World.setCell (World.setCell _ _ _) _ _) _ _ = w6 at bR UR ⊢
    obtain ⟨g0, g1, g2⟩ := bR.c3
    exact bodyPost_ret (v := .tuple #[.agg #[Z, Z, .slice none 0 0], E (ad (gOf x))]) (by simp [results, Tryd.results14, go_sem, g0, g1, g2]) rfl ⟨rfl, UR⟩
  | ok t =>
    subst hres
    go_wp2_with fail
    refine key.mono ?_
    rintro e w4 ⟨v4, rfl, o4, u4⟩
    have b4 := b1.up u4
    have U4 := hU.trans u4
    obtain ⟨a2, M2, c2, rfl⟩ : ∃ a1 M c1, v4 = .slice a1 M c1 := by obtain ⟨a1, c1, e⟩ := o4.shape; exact ⟨_, _, _, e⟩
    obtain ⟨y0, y1, y2⟩ := b4.c3
    have f0 := b4.frozen 0
    have f1 := b4.frozen 1
    have f2 := b4.frozen 2
    have hRl := b1.lt
    have HB4 : Hid (Box w4 (B + 2) #[Z, Z, .slice none 0 0] ∧ Up w w4 ∧ OwnE w4 (B + 2 + 1) (.slice a2 M2 c2) t.keys) := ⟨b4, U4, o4.rebase (by omega)⟩
    clear b4 U4 u4 key b1 hU o4 hRl
    go_wp2_with fail
    have bR := Box.set3 (x := V t.lsn) (y := V t.floor) (z := .slice a2 M2 c2) HB4.out.1
    have UR := Up.set3 HB4.out.2.1 (by have := HB.out; omega : w.heap.size ≤ B + 2) (V t.lsn) (V t.floor) (.slice a2 M2 c2)
    have TR : Touch w4 (((w4.setCell ⟨B + 2, 0, none⟩ (V t.lsn)).setCell ⟨B + 2, 1, none⟩ (V t.floor)).setCell ⟨B + 2, 2, none⟩ (.slice a2 M2 c2)) [B + 2] := (((Touch.refl _ _).setCell (.inl (by simp)) _ _).setCell (.inl (by simp)) _ _).setCell (.inl (by simp)) _ _
    have OR := HB4.out.2.2.kept TR (fun j hj => by have := (HB4.out.2.2.ge j hj).1; simp; omega)
    generalize World.setCell (World.setCell (World.setCell _ _ _) _ _) _ _ = w6 at bR UR OR ⊢
    obtain ⟨g0, g1, g2⟩ := bR.c3
    exact bodyPost_ret (v := .tuple #[.agg #[V t.lsn, V t.floor, .slice a2 M2 c2], .nilIface]) (by simp [results, Tryd.results14, go_sem, g0, g1, g2]) rfl ⟨_, rfl, OR.rebase (by have := HB.out; omega), UR⟩

/-- Apply. -/
theorem Apply_any (v : Value) (l f n : Nat) (xs : List Ent) (r : RecV) (ad : Nat → Addr) (w : World) (h : SlE w v xs) (hl : xs.length ≤ 4611686018427387903) (hn : n < 18446744073709551616) (hk : ErrSet stErrs errTxt w ad) :
    Calls Tryd.prog 14 #[.agg #[V l, V f, v], V n, RV r] w (RunPost ad w (applyS ⟨l, f, xs⟩ n r)) := by
  have hV := fun u (uu : Up w u) => Valid_any v l f xs u (h.up uu) hl
  unfold applyS
  cases ho : okS ⟨l, f, xs⟩ with
  | false =>
    rw [ho] at hV
    obtain ⟨a0, c0, rfl⟩ := h.shape
    exact Apply_none a0 xs.length c0 l f n _ _ _ _ _ _ _ _ _ _ _ w _ (hk 1 (by decide)).1 hV
  | true =>
    rw [ho] at hV
    have hs := (okS_iff _).1 ho
    have hR : ∀ u g c, Up w u → u.heap[g]? = some (.cells #[.int .i64 r.kind, V r.floor, .string (kb r), .int .i64 r.pk, V r.gap, V r.slack, V r.limit, V r.span, V r.tat, V r.idx, V r.cnt] 39 (0, 0)) → 1 ≤ c → Calls Tryd.prog 32 #[.agg #[V l, V f, v], V n, .slice (some ⟨g, 0, none⟩) 1 c] u (RunPost ad u (stepS ⟨l, f, xs⟩ n r)) := fun u g c uu hg hc => by
      have b := Box.c11 ⟨_, hg⟩
      have := run_any v l f n xs (.slice (some ⟨g, 0, none⟩) 1 c) [r] ad u (h.up uu) ⟨_, c, rfl, hc, (by intro e; cases e), fun _ => ⟨g, 0, rfl, fun i hi => by
        obtain rfl : i = 0 := by simpa using hi
        exact b⟩⟩ hs hn (by simp) (hk.up uu)
      rw [run_one] at this
      exact this
    obtain ⟨a0, c0, rfl⟩ := h.shape
    exact Apply_go a0 xs.length c0 l f n _ _ _ _ _ _ _ _ _ _ _ w ad _ hV (fun u g uu hg => hR u g 1 uu hg (Nat.le_refl _))
end Go.Proofs.YtdddfapelencoaaDoor
