/- Merged: RcRefD. -/
import Derived.Test.YtcllenlpoknakaaDoorMr32
import Derived.Test.YtcllenlpoknakaaDoorMr33
set_option linter.unusedVariables false
set_option linter.unusedSimpArgs false
namespace Go.Proofs.YtcllenlpoknakaaDoor
open Go Go.RowKit

theorem qPolicy_1 (x y : Nat) (w : World) : Calls Tryd.prog 43 #[.int .i64 1, V x, V y] w fun e w' => e = .returned (.agg #[.int .i64 1, V x, V y, Z, Z]) ∧ Up w w' := by
  go_enter Tryd.func43, Tryd.ntmps43
  go_wp2
  exact bodyPost_ret (v := .agg #[.int .i64 1, V x, V y, Z, Z]) (by simp [results, Tryd.results43, go_sem]) rfl ⟨rfl, Up.alloc _ _⟩
theorem qPolicy_2 (k : Int) (x y : Nat) (h : (k == 1) = false) (w : World) : Calls Tryd.prog 43 #[.int .i64 k, V x, V y] w fun e w' => e = .returned (.agg #[.int .i64 k, Z, Z, V x, V y]) ∧ Up w w' := by
  go_enter Tryd.func43, Tryd.ntmps43
  go_wp2
  exact bodyPost_ret (v := .agg #[.int .i64 k, Z, Z, V x, V y]) (by simp [results, Tryd.results43, go_sem]) rfl ⟨rfl, Up.alloc _ _⟩

/-- While the reference reads. -/
structure DcQ (w wi : World) (N0 N1 r : Nat) (v : Value) (b : List UInt8) (st : Option (List UInt8)) (cs : Array Value) : Prop where
  up : Up w wi
  cu : CutS wi r v b st
  b0 : Box wi N0 Zs
  b1 : Box wi N1 cs
  h0 : w.heap.size ≤ N0
  h0r : N0 < r
  h1 : r < N1
theorem DcQ.read {w wi wj : World} {N0 N1 r : Nat} {v : Value} {b : List UInt8} {st st' : Option (List UInt8)} {cs : Array Value} (h : DcQ w wi N0 N1 r v b st cs) (k : CutS wj r v b st') (g : But r wi wj) : DcQ w wj N0 N1 r v b st' cs :=
  ⟨Below.trans h.up (g.below (by have := h.h0; have := h.h0r; omega) h.up.size), k, h.b0.but g (by have := h.h0r; omega), h.b1.but g (by have := h.h1; omega), h.h0, h.h0r, h.h1⟩
theorem CutS.other {wi : World} {r N1 : Nat} {v : Value} {b : List UInt8} {st : Option (List UInt8)} (h : CutS wi r v b st) (hn : r < N1) (i : Nat) (x : Value) : CutS (wi.setCell ⟨N1, i, none⟩ x) r v b st := by
  obtain ⟨⟨a, s, hb, h2⟩, hs⟩ := h
  refine ⟨⟨a, s, hb.other (by omega) i x, h2⟩, ?_⟩
  obtain ⟨ao, cap, rfl, q2, q3, hx⟩ := hs
  refine ⟨_, _, rfl, q2, q3, fun hne => ?_⟩
  obtain ⟨b', o, e, hlt, ha⟩ := hx hne
  exact ⟨b', o, e, hlt, fun j hj => by rw [(But.setCell wi N1 i x).cell (ha j hj) (by simp; omega)]⟩
theorem DcQ.set {w wi : World} {N0 N1 r : Nat} {v : Value} {b : List UInt8} {st : Option (List UInt8)} {cs : Array Value} (h : DcQ w wi N0 N1 r v b st cs) (i : Nat) (x : Value) : DcQ w (wi.setCell ⟨N1, i, none⟩ x) N0 N1 r v b st (cs.setIfInBounds i x) :=
  ⟨belowSet (by have := h.h0; have := h.h0r; have := h.h1; omega) i x h.up, h.cu.other h.h1 i x, h.b0.other (by have := h.h0r; have := h.h1; omega) i x, h.b1.set i x, h.h0, h.h0r, h.h1⟩
theorem DcQ.cast {w wi : World} {N0 N1 r : Nat} {v : Value} {b : List UInt8} {st : Option (List UInt8)} {cs ds : Array Value} (h : DcQ w wi N0 N1 r v b st cs) (e : cs = ds) : DcQ w wi N0 N1 r v b st ds := e ▸ h
theorem DcQ.up' {w wi wj : World} {N0 N1 r : Nat} {v : Value} {b : List UInt8} {st : Option (List UInt8)} {cs : Array Value} (h : DcQ w wi N0 N1 r v b st cs) (u : Up wi wj) : DcQ w wj N0 N1 r v b st cs :=
  ⟨h.up.trans u, h.cu.up u, h.b0.up u, h.b1.up u, h.h0, h.h0r, h.h1⟩
/-- What the reference answers, by what is left behind the last field and whether the record is one. -/
def qdecT : Option (List UInt8) → Bool → Value → Value
  | none, _, _ => .tuple #[.agg Zs, .int .i64 2]
  | some (_ :: _), _, _ => .tuple #[.agg Zs, .int .i64 3]
  | some [], false, _ => .tuple #[.agg Zs, .int .i64 3]
  | some [], true, R => .tuple #[R, .int .i64 0]

set_option maxRecDepth 20000 in
set_option maxHeartbeats 3200000 in
theorem qDecode_short1 (base : Nat) (v : Value) (b : List UInt8) (w : World) (hs : Sl base w v b) (hl : (b.length : Int) ≤ 140737488351232) (e0 : rdA 1 (some b) = (0, none)) :
    Calls Tryd.prog 20 #[v] w fun e w' => e = .returned (.tuple #[.agg Zs, .int .i64 2]) ∧ Up w w' := by
  obtain ⟨ao, cap, rfl, hq1, hq2, hq3⟩ := id hs
  have hslp : SlP (fun b => b < w.heap.size + 1) w (.slice ao b.length cap) b := ⟨_, _, rfl, hq1, hq2, fun hne => by
    obtain ⟨bb, oo, e, _, ha⟩ := hq3 hne
    exact ⟨bb, oo, e, by have := ha.lt hne; omega, ha⟩⟩
  obtain ⟨N, hN⟩ : ∃ N, b.length = N := ⟨_, rfl⟩
  have HN : Hid (b.length = N) := hN
  have HL : Hid ((b.length : Int) ≤ 140737488351232) := hl
  rw [hN] at hl hslp ⊢
  clear hN hq1 hq2 hq3 hs
  have HSP : Hid (SlP (fun b => b < w.heap.size + 1) w (.slice ao N cap) b) := hslp
  clear hslp
  go_enter Tryd.func20, Tryd.ntmps20
  go_wp2_with fail
  have uz : Up w ((w.alloc (.cells Zs 32)).alloc (.cells #[.slice ao N cap, .int .i64 0, .bool false] 74)) := (Up.alloc _ _).trans (Up.alloc _ _)
  have bz : Box ((w.alloc (.cells Zs 32)).alloc (.cells #[.slice ao N cap, .int .i64 0, .bool false] 74)) w.heap.size Zs := (Box.new _ _ _).alloc _
  have br : Box ((w.alloc (.cells Zs 32)).alloc (.cells #[.slice ao N cap, .int .i64 0, .bool false] 74)) (w.heap.size + 1) #[.slice ao N cap, .int .i64 ((0 : Nat) : Int), .bool false] := Box.newAt (by simp)
  have C0 : CutS ((w.alloc (.cells Zs 32)).alloc (.cells #[.slice ao N cap, .int .i64 0, .bool false] 74)) (w.heap.size + 1) (.slice ao N cap) b (some b) := ⟨⟨0, false, br, Nat.zero_le _, rfl⟩, HSP.out.up uz⟩
  have k0 := qNumber_S C0 HL.out 1 (by omega) (by omega)
  rw [e0] at k0
  refine k0.mono ?_
  rintro e w2 ⟨rfl, C2, g2⟩
  have U2 : Up w w2 := Below.trans uz (g2.below (by omega) uz.size)
  have b2 := bz.but g2 (show w.heap.size ≠ w.heap.size + 1 by omega)
  obtain ⟨r, hr⟩ : ∃ r, w.heap.size + 1 = r := ⟨_, rfl⟩
  rw [hr] at C2 ⊢
  have hr1 : w.heap.size < r := by omega
  have hr2 : r < w2.heap.size := by
    obtain ⟨⟨_, _, bb, _⟩, _⟩ := C2
    exact bb.lt
  clear k0 C0 br bz uz g2 hr
  obtain ⟨⟨a2, s2', bx, hax, hsx⟩, _⟩ := id C2
  obtain rfl : s2' = true := by
    cases s2' with
    | true => rfl
    | false => simp at hsx
  obtain ⟨x0, x1, x2⟩ := bx.c3
  have zb0 := b2
  obtain ⟨z0, z1, z2, z3, z4, z5, z6, z7, z8, z9, z10⟩ := zb0.c11
  have zf := zb0.frozen
  have zl := zb0.lt
  have UD := U2
  go_wp2
  have bF := boxSet11 zb0 (.int .i64 0) Z (.string es) (.int .i64 0) Z Z Z Z Z Z Z
  have UF := up_set11 UD (Nat.le_refl _) (.int .i64 0) Z (.string es) (.int .i64 0) Z Z Z Z Z Z Z
  clear z0 z1 z2 z3 z4 z5 z6 z7 z8 z9 z10 zf zb0 UD x0 x1 x2 bx hax hsx C2 b2 U2
  generalize World.setCell (World.setCell _ _ _) _ _ = wz at *
  obtain ⟨z0, z1, z2, z3, z4, z5, z6, z7, z8, z9, z10⟩ := bF.c11
  exact bodyPost_ret (v := .tuple #[.agg Zs, .int .i64 2]) (by simp [results, Tryd.results20, go_sem, z0, z1, z2, z3, z4, z5, z6, z7, z8, z9, z10]) rfl ⟨rfl, UF⟩

set_option maxRecDepth 20000 in
set_option maxHeartbeats 3200000 in
theorem qDecode_kind (base : Nat) (v : Value) (b : List UInt8) (w : World) (hs : Sl base w v b) (hl : (b.length : Int) ≤ 140737488351232) {x : Nat} {b1 : List UInt8} (e0 : rdA 1 (some b) = (x, some b1)) (hx : (x : Int) < 1 ∨ (1 : Int) ≤ (x : Int) ∧ 3 < (x : Int)) :
    Calls Tryd.prog 20 #[v] w fun e w' => e = .returned (.tuple #[.agg Zs, .int .i64 3]) ∧ Up w w' := by
  have hb : (x : Int) ≤ 255 := by have := rdA_lt 1 (some b); rw [e0] at this; simp only at this; omega
  obtain ⟨ao, cap, rfl, hq1, hq2, hq3⟩ := id hs
  have hslp : SlP (fun b => b < w.heap.size + 1) w (.slice ao b.length cap) b := ⟨_, _, rfl, hq1, hq2, fun hne => by
    obtain ⟨bb, oo, e, _, ha⟩ := hq3 hne
    exact ⟨bb, oo, e, by have := ha.lt hne; omega, ha⟩⟩
  obtain ⟨N, hN⟩ : ∃ N, b.length = N := ⟨_, rfl⟩
  have HN : Hid (b.length = N) := hN
  have HL : Hid ((b.length : Int) ≤ 140737488351232) := hl
  rw [hN] at hl hslp ⊢
  clear hN hq1 hq2 hq3 hs
  have HSP : Hid (SlP (fun b => b < w.heap.size + 1) w (.slice ao N cap) b) := hslp
  clear hslp
  go_enter Tryd.func20, Tryd.ntmps20
  go_wp2_with fail
  have uz : Up w ((w.alloc (.cells Zs 32)).alloc (.cells #[.slice ao N cap, .int .i64 0, .bool false] 74)) := (Up.alloc _ _).trans (Up.alloc _ _)
  have bz : Box ((w.alloc (.cells Zs 32)).alloc (.cells #[.slice ao N cap, .int .i64 0, .bool false] 74)) w.heap.size Zs := (Box.new _ _ _).alloc _
  have br : Box ((w.alloc (.cells Zs 32)).alloc (.cells #[.slice ao N cap, .int .i64 0, .bool false] 74)) (w.heap.size + 1) #[.slice ao N cap, .int .i64 ((0 : Nat) : Int), .bool false] := Box.newAt (by simp)
  have C0 : CutS ((w.alloc (.cells Zs 32)).alloc (.cells #[.slice ao N cap, .int .i64 0, .bool false] 74)) (w.heap.size + 1) (.slice ao N cap) b (some b) := ⟨⟨0, false, br, Nat.zero_le _, rfl⟩, HSP.out.up uz⟩
  have k0 := qNumber_S C0 HL.out 1 (by omega) (by omega)
  rw [e0] at k0
  refine k0.mono ?_
  rintro e w2 ⟨rfl, C2, g2⟩
  have U2 : Up w w2 := Below.trans uz (g2.below (by omega) uz.size)
  have b2 := bz.but g2 (show w.heap.size ≠ w.heap.size + 1 by omega)
  obtain ⟨r, hr⟩ : ∃ r, w.heap.size + 1 = r := ⟨_, rfl⟩
  rw [hr] at C2 ⊢
  have hr1 : w.heap.size < r := by omega
  have hr2 : r < w2.heap.size := by
    obtain ⟨⟨_, _, bb, _⟩, _⟩ := C2
    exact bb.lt
  clear k0 C0 br bz uz g2 hr
  obtain ⟨⟨a2, s2', bx, hax, hsx⟩, _⟩ := id C2
  obtain rfl : s2' = false := by
    cases s2' with
    | true => simp at hsx
    | false => rfl
  obtain ⟨x0, x1, x2⟩ := bx.c3
  clear hsx
  rcases hx with hx | ⟨hx1, hx2⟩
  · have hx3 : ¬ (3 : Int) < (x : Int) := by omega
    have zb0 := b2
    obtain ⟨z0, z1, z2, z3, z4, z5, z6, z7, z8, z9, z10⟩ := zb0.c11
    have zf := zb0.frozen
    have zl := zb0.lt
    have UD := U2
    go_wp2
    have bF := boxSet11 zb0 (.int .i64 0) Z (.string es) (.int .i64 0) Z Z Z Z Z Z Z
    have UF := up_set11 UD (Nat.le_refl _) (.int .i64 0) Z (.string es) (.int .i64 0) Z Z Z Z Z Z Z
    clear z0 z1 z2 z3 z4 z5 z6 z7 z8 z9 z10 zf zb0 UD x0 x1 x2 bx hax C2 b2 U2
    generalize World.setCell (World.setCell _ _ _) _ _ = wz at *
    obtain ⟨z0, z1, z2, z3, z4, z5, z6, z7, z8, z9, z10⟩ := bF.c11
    exact bodyPost_ret (v := .tuple #[.agg Zs, .int .i64 3]) (by simp [results, Tryd.results20, go_sem, z0, z1, z2, z3, z4, z5, z6, z7, z8, z9, z10]) rfl ⟨rfl, UF⟩
  · have hx3 : ¬ (x : Int) < 1 := by omega
    have zb0 := b2
    obtain ⟨z0, z1, z2, z3, z4, z5, z6, z7, z8, z9, z10⟩ := zb0.c11
    have zf := zb0.frozen
    have zl := zb0.lt
    have UD := U2
    go_wp2
    have bF := boxSet11 zb0 (.int .i64 0) Z (.string es) (.int .i64 0) Z Z Z Z Z Z Z
    have UF := up_set11 UD (Nat.le_refl _) (.int .i64 0) Z (.string es) (.int .i64 0) Z Z Z Z Z Z Z
    clear z0 z1 z2 z3 z4 z5 z6 z7 z8 z9 z10 zf zb0 UD x0 x1 x2 bx hax C2 b2 U2
    generalize World.setCell (World.setCell _ _ _) _ _ = wz at *
    obtain ⟨z0, z1, z2, z3, z4, z5, z6, z7, z8, z9, z10⟩ := bF.c11
    exact bodyPost_ret (v := .tuple #[.agg Zs, .int .i64 3]) (by simp [results, Tryd.results20, go_sem, z0, z1, z2, z3, z4, z5, z6, z7, z8, z9, z10]) rfl ⟨rfl, UF⟩

set_option maxRecDepth 20000 in
set_option maxHeartbeats 3200000 in
theorem qDecode_del (base : Nat) (v : Value) (b : List UInt8) (w : World) (hs : Sl base w v b) (hl : (b.length : Int) ≤ 140737488351232) {b1 key : List UInt8} {f : Nat} {s2 s3 : Option (List UInt8)} (o : Bool) (e0 : rdA 1 (some b) = (2, some b1)) (e1 : rdA 8 (some b1) = (f, s2)) (e2 : rdTA s2 = (key, s3)) (S : ByteArray) (hS : Hid ((⟨key.toArray⟩ : ByteArray) = S))
    (hV : ∀ w, Calls Tryd.prog 17 #[.agg #[.int .i64 2, V f, .string S, .int .i64 0, Z, Z, Z, Z, Z, Z, Z]] w fun e w' => e = .returned (.bool o) ∧ Up w w') :
    Calls Tryd.prog 20 #[v] w fun e w' => e = .returned (qdecT s3 o (.agg #[.int .i64 2, V f, .string S, .int .i64 0, Z, Z, Z, Z, Z, Z, Z])) ∧ Up w w' := by
  have E1 : Hid (rdA 8 (some b1) = (f, s2)) := e1
  have E2 : Hid (rdTA s2 = (key, s3)) := e2
  clear e1 e2
  obtain ⟨ao, cap, rfl, hq1, hq2, hq3⟩ := id hs
  have hslp : SlP (fun b => b < w.heap.size + 1) w (.slice ao b.length cap) b := ⟨_, _, rfl, hq1, hq2, fun hne => by
    obtain ⟨bb, oo, e, _, ha⟩ := hq3 hne
    exact ⟨bb, oo, e, by have := ha.lt hne; omega, ha⟩⟩
  obtain ⟨N, hN⟩ : ∃ N, b.length = N := ⟨_, rfl⟩
  have HN : Hid (b.length = N) := hN
  have HL : Hid ((b.length : Int) ≤ 140737488351232) := hl
  rw [hN] at hl hslp ⊢
  clear hN hq1 hq2 hq3 hs
  have HSP : Hid (SlP (fun b => b < w.heap.size + 1) w (.slice ao N cap) b) := hslp
  clear hslp
  go_enter Tryd.func20, Tryd.ntmps20
  go_wp2_with fail
  have uz : Up w ((w.alloc (.cells Zs 32)).alloc (.cells #[.slice ao N cap, .int .i64 0, .bool false] 74)) := (Up.alloc _ _).trans (Up.alloc _ _)
  have bz : Box ((w.alloc (.cells Zs 32)).alloc (.cells #[.slice ao N cap, .int .i64 0, .bool false] 74)) w.heap.size Zs := (Box.new _ _ _).alloc _
  have br : Box ((w.alloc (.cells Zs 32)).alloc (.cells #[.slice ao N cap, .int .i64 0, .bool false] 74)) (w.heap.size + 1) #[.slice ao N cap, .int .i64 ((0 : Nat) : Int), .bool false] := Box.newAt (by simp)
  have C0 : CutS ((w.alloc (.cells Zs 32)).alloc (.cells #[.slice ao N cap, .int .i64 0, .bool false] 74)) (w.heap.size + 1) (.slice ao N cap) b (some b) := ⟨⟨0, false, br, Nat.zero_le _, rfl⟩, HSP.out.up uz⟩
  have k0 := qNumber_S C0 HL.out 1 (by omega) (by omega)
  rw [e0] at k0
  refine k0.mono ?_
  rintro e w2 ⟨rfl, C2, g2⟩
  have U2 : Up w w2 := Below.trans uz (g2.below (by omega) uz.size)
  have b2 := bz.but g2 (show w.heap.size ≠ w.heap.size + 1 by omega)
  obtain ⟨r, hr⟩ : ∃ r, w.heap.size + 1 = r := ⟨_, rfl⟩
  rw [hr] at C2 ⊢
  have hr1 : w.heap.size < r := by omega
  have hr2 : r < w2.heap.size := by
    obtain ⟨⟨_, _, bb, _⟩, _⟩ := C2
    exact bb.lt
  clear k0 C0 br bz uz g2 hr
  obtain ⟨⟨a2, s2', bx, hax, hsx⟩, _⟩ := id C2
  obtain rfl : s2' = false := by
    cases s2' with
    | true => simp at hsx
    | false => rfl
  obtain ⟨x0, x1, x2⟩ := bx.c3
  clear hsx
  have D1 : DcQ w (w2.alloc (.cells #[.int .i64 2, Z, .string es, .int .i64 0, Z, Z, Z, Z, Z, Z, Z] 32)) w.heap.size w2.heap.size r (.slice ao N cap) b (some b1) #[.int .i64 2, Z, .string es, .int .i64 0, Z, Z, Z, Z, Z, Z, Z] :=
    ⟨U2.trans (Up.alloc _ _), C2.up (Up.alloc _ _), b2.alloc _, Box.new _ _ _, Nat.le_refl _, hr1, hr2⟩
  obtain ⟨N1, hN1⟩ : ∃ N1, w2.heap.size = N1 := ⟨_, rfl⟩
  rw [hN1] at D1 hr2
  clear b2 U2 C2
  go_wp2_with fail
  have k : ∀ u, CutS u r (.slice ao N cap) b (some b1) → Calls Tryd.prog 41 #[.pointer (some ⟨r, 0, none⟩), .int .i64 8] u fun e w' => e = .returned (V f) ∧ CutS w' r (.slice ao N cap) b s2 ∧ But r u w' := fun u hu => by
    have := qNumber_S hu HL.out 8 (by omega) (by omega)
    rw [E1.out] at this
    exact this
  refine (k _ D1.cu).mono ?_
  rintro e w6 ⟨rfl, R5, g5⟩
  replace D1 := D1.read R5 g5
  clear k R5 g5
  clear x0 x1 x2 bx hax
  obtain ⟨c0, c1, c2, c3, c4, c5, c6, c7, c8, c9, c10⟩ := D1.b1.c11
  have cf := D1.b1.frozen
  have cl := D1.b1.lt
  go_wp2_with fail
  clear c0 c1 c2 c3 c4 c5 c6 c7 c8 c9 c10 cf cl
  replace D1 := (D1.set 1 (V f)).cast (ds := #[.int .i64 2, V f, .string es, .int .i64 0, Z, Z, Z, Z, Z, Z, Z]) rfl
  generalize World.setCell w6 _ _ = w7 at *
  obtain ⟨c0, c1, c2, c3, c4, c5, c6, c7, c8, c9, c10⟩ := D1.b1.c11
  have cf := D1.b1.frozen
  have cl := D1.b1.lt
  have k : ∀ u, CutS u r (.slice ao N cap) b s2 → Calls Tryd.prog 42 #[.pointer (some ⟨r, 0, none⟩)] u fun e w' => e = .returned (.string S) ∧ CutS w' r (.slice ao N cap) b s3 ∧ But r u w' := fun u hu => by
    have := qText_S hu HL.out
    rw [E2.out] at this
    simp only [hS.out] at this
    exact this
  refine (k _ D1.cu).mono ?_
  rintro e w8 ⟨rfl, R5, g5⟩
  replace D1 := D1.read R5 g5
  clear k R5 g5
  clear c0 c1 c2 c3 c4 c5 c6 c7 c8 c9 c10 cf cl
  obtain ⟨c0, c1, c2, c3, c4, c5, c6, c7, c8, c9, c10⟩ := D1.b1.c11
  have cf := D1.b1.frozen
  have cl := D1.b1.lt
  go_upto_region 20 with fail
  clear c0 c1 c2 c3 c4 c5 c6 c7 c8 c9 c10 cf cl
  replace D1 := (D1.set 2 (.string S)).cast (ds := #[.int .i64 2, V f, .string S, .int .i64 0, Z, Z, Z, Z, Z, Z, Z]) rfl
  generalize World.setCell w8 _ _ = w9 at *
  rcases hse : s3 with _ | l
  · rw [hse] at D1
    obtain ⟨⟨ax, sx, bx, hax, hsx⟩, _⟩ := id D1.cu
    obtain rfl : sx = true := by
      cases sx with
      | true => rfl
      | false => simp at hsx
    obtain ⟨x0, x1, x2⟩ := bx.c3
    clear hsx
    have zb0 := D1.b0
    obtain ⟨z0, z1, z2, z3, z4, z5, z6, z7, z8, z9, z10⟩ := zb0.c11
    have zf := zb0.frozen
    have zl := zb0.lt
    have UD := D1.up
    go_wp2
    have bF := boxSet11 zb0 (.int .i64 0) Z (.string es) (.int .i64 0) Z Z Z Z Z Z Z
    have UF := up_set11 UD (Nat.le_refl _) (.int .i64 0) Z (.string es) (.int .i64 0) Z Z Z Z Z Z Z
    clear z0 z1 z2 z3 z4 z5 z6 z7 z8 z9 z10 zf zb0 UD x0 x1 x2 bx hax D1
    generalize World.setCell (World.setCell _ _ _) _ _ = wz at *
    obtain ⟨z0, z1, z2, z3, z4, z5, z6, z7, z8, z9, z10⟩ := bF.c11
    exact bodyPost_ret (v := .tuple #[.agg Zs, .int .i64 2]) (by simp [results, Tryd.results20, go_sem, z0, z1, z2, z3, z4, z5, z6, z7, z8, z9, z10]) rfl ⟨by rw [hse]; rfl, UF⟩
  · rw [hse] at D1
    obtain ⟨⟨ax, sx, bx, hax, hsx⟩, _⟩ := id D1.cu
    obtain rfl : sx = false := by
      cases sx with
      | true => simp at hsx
      | false => rfl
    obtain ⟨x0, x1, x2⟩ := bx.c3
    have hax2 := hax
    rw [HN.out] at hax2
    have hl2 : l = b.drop ax := by simpa using hsx
    have hll : l.length = N - ax := by rw [hl2, List.length_drop, HN.out]
    clear hsx hl2 hax
    obtain ⟨c0, c1, c2, c3, c4, c5, c6, c7, c8, c9, c10⟩ := D1.b1.c11
    have cf := D1.b1.frozen
    have cl := D1.b1.lt
    go_wp2_with fail
    refine (hV _).mono ?_
    rintro e wB ⟨rfl, uB⟩
    replace D1 := D1.up' uB
    replace bx := bx.up uB
    clear uB hV x0 x1 x2
    clear c0 c1 c2 c3 c4 c5 c6 c7 c8 c9 c10 cf cl
    obtain ⟨x0, x1, x2⟩ := bx.c3
    rcases l with _ | ⟨cc, ll⟩
    · have hq : ax = N := by simp at hll; omega
      have hq2 : ((ax : Int) == (N : Int)) = true := by simp; omega
      clear hll hax2
      cases o
      · have zb0 := D1.b0
        obtain ⟨z0, z1, z2, z3, z4, z5, z6, z7, z8, z9, z10⟩ := zb0.c11
        have zf := zb0.frozen
        have zl := zb0.lt
        have UD := D1.up
        go_wp2
        have bF := boxSet11 zb0 (.int .i64 0) Z (.string es) (.int .i64 0) Z Z Z Z Z Z Z
        have UF := up_set11 UD (Nat.le_refl _) (.int .i64 0) Z (.string es) (.int .i64 0) Z Z Z Z Z Z Z
        clear z0 z1 z2 z3 z4 z5 z6 z7 z8 z9 z10 zf zb0 UD x0 x1 x2 bx D1
        generalize World.setCell (World.setCell _ _ _) _ _ = wz at *
        obtain ⟨z0, z1, z2, z3, z4, z5, z6, z7, z8, z9, z10⟩ := bF.c11
        exact bodyPost_ret (v := .tuple #[.agg Zs, .int .i64 3]) (by simp [results, Tryd.results20, go_sem, z0, z1, z2, z3, z4, z5, z6, z7, z8, z9, z10]) rfl ⟨by rw [hse]; rfl, UF⟩
      · obtain ⟨c0, c1, c2, c3, c4, c5, c6, c7, c8, c9, c10⟩ := D1.b1.c11
        have cf := D1.b1.frozen
        have cl := D1.b1.lt
        have zb0 := D1.b0
        obtain ⟨z0, z1, z2, z3, z4, z5, z6, z7, z8, z9, z10⟩ := zb0.c11
        have zf := zb0.frozen
        have zl := zb0.lt
        have UD := D1.up
        have hNN : w.heap.size ≠ N1 := by omega
        go_wp2
        have bF := boxSet11 zb0 (.int .i64 2) (V f) (.string S) (.int .i64 0) (Z) (Z) (Z) (Z) (Z) (Z) (Z)
        have UF := up_set11 UD (Nat.le_refl _) (.int .i64 2) (V f) (.string S) (.int .i64 0) (Z) (Z) (Z) (Z) (Z) (Z) (Z)
        clear z0 z1 z2 z3 z4 z5 z6 z7 z8 z9 z10 zf zb0 UD D1 x0 x1 x2 bx
        clear c0 c1 c2 c3 c4 c5 c6 c7 c8 c9 c10 cf cl
        generalize World.setCell (World.setCell _ _ _) _ _ = wz at *
        obtain ⟨z0, z1, z2, z3, z4, z5, z6, z7, z8, z9, z10⟩ := bF.c11
        exact bodyPost_ret (v := .tuple #[.agg #[.int .i64 2, V f, .string S, .int .i64 0, Z, Z, Z, Z, Z, Z, Z], .int .i64 0]) (by simp [results, Tryd.results20, go_sem, z0, z1, z2, z3, z4, z5, z6, z7, z8, z9, z10]) rfl ⟨by rw [hse]; rfl, UF⟩
    · have hq2 : ((ax : Int) != (N : Int)) = true := by simp at hll; simp; omega
      clear hll hax2
      have zb0 := D1.b0
      obtain ⟨z0, z1, z2, z3, z4, z5, z6, z7, z8, z9, z10⟩ := zb0.c11
      have zf := zb0.frozen
      have zl := zb0.lt
      have UD := D1.up
      go_wp2
      have bF := boxSet11 zb0 (.int .i64 0) Z (.string es) (.int .i64 0) Z Z Z Z Z Z Z
      have UF := up_set11 UD (Nat.le_refl _) (.int .i64 0) Z (.string es) (.int .i64 0) Z Z Z Z Z Z Z
      clear z0 z1 z2 z3 z4 z5 z6 z7 z8 z9 z10 zf zb0 UD x0 x1 x2 bx D1
      generalize World.setCell (World.setCell _ _ _) _ _ = wz at *
      obtain ⟨z0, z1, z2, z3, z4, z5, z6, z7, z8, z9, z10⟩ := bF.c11
      exact bodyPost_ret (v := .tuple #[.agg Zs, .int .i64 3]) (by simp [results, Tryd.results20, go_sem, z0, z1, z2, z3, z4, z5, z6, z7, z8, z9, z10]) rfl ⟨by rw [hse]; cases o <;> rfl, UF⟩

set_option maxRecDepth 20000 in
set_option maxHeartbeats 3200000 in
theorem qDecode_flow (base : Nat) (v : Value) (b : List UInt8) (w : World) (hs : Sl base w v b) (hl : (b.length : Int) ≤ 140737488351232) {b1 key : List UInt8} {f : Nat} {s2 s3 : Option (List UInt8)} {s4 s5 s6 : Option (List UInt8)} {x y z : Nat} (o : Bool) (e0 : rdA 1 (some b) = (1, some b1)) (e1 : rdA 8 (some b1) = (f, s2)) (e2 : rdTA s2 = (key, s3)) (e3 : rdA 1 s3 = (x, s4)) (e4 : rdA 8 s4 = (y, s5)) (e5 : rdA 8 s5 = (z, s6)) (hx : x = 1) (S : ByteArray) (hS : Hid ((⟨key.toArray⟩ : ByteArray) = S))
    (hV : ∀ w, Calls Tryd.prog 17 #[.agg #[.int .i64 1, V f, .string S, .int .i64 1, V y, V z, Z, Z, Z, Z, Z]] w fun e w' => e = .returned (.bool o) ∧ Up w w') :
    Calls Tryd.prog 20 #[v] w fun e w' => e = .returned (qdecT s6 o (.agg #[.int .i64 1, V f, .string S, .int .i64 1, V y, V z, Z, Z, Z, Z, Z])) ∧ Up w w' := by
  have E1 : Hid (rdA 8 (some b1) = (f, s2)) := e1
  have E2 : Hid (rdTA s2 = (key, s3)) := e2
  clear e1 e2
  have hb : (x : Int) ≤ 255 := by have := rdA_lt 1 s3; rw [e3] at this; simp only at this; omega
  subst hx
  have E3 : Hid (rdA 1 s3 = (1, s4)) := e3
  have E4 : Hid (rdA 8 s4 = (y, s5)) := e4
  have E5 : Hid (rdA 8 s5 = (z, s6)) := e5
  clear e3 e4 e5
  obtain ⟨ao, cap, rfl, hq1, hq2, hq3⟩ := id hs
  have hslp : SlP (fun b => b < w.heap.size + 1) w (.slice ao b.length cap) b := ⟨_, _, rfl, hq1, hq2, fun hne => by
    obtain ⟨bb, oo, e, _, ha⟩ := hq3 hne
    exact ⟨bb, oo, e, by have := ha.lt hne; omega, ha⟩⟩
  obtain ⟨N, hN⟩ : ∃ N, b.length = N := ⟨_, rfl⟩
  have HN : Hid (b.length = N) := hN
  have HL : Hid ((b.length : Int) ≤ 140737488351232) := hl
  rw [hN] at hl hslp ⊢
  clear hN hq1 hq2 hq3 hs
  have HSP : Hid (SlP (fun b => b < w.heap.size + 1) w (.slice ao N cap) b) := hslp
  clear hslp
  go_enter Tryd.func20, Tryd.ntmps20
  go_wp2_with fail
  have uz : Up w ((w.alloc (.cells Zs 32)).alloc (.cells #[.slice ao N cap, .int .i64 0, .bool false] 74)) := (Up.alloc _ _).trans (Up.alloc _ _)
  have bz : Box ((w.alloc (.cells Zs 32)).alloc (.cells #[.slice ao N cap, .int .i64 0, .bool false] 74)) w.heap.size Zs := (Box.new _ _ _).alloc _
  have br : Box ((w.alloc (.cells Zs 32)).alloc (.cells #[.slice ao N cap, .int .i64 0, .bool false] 74)) (w.heap.size + 1) #[.slice ao N cap, .int .i64 ((0 : Nat) : Int), .bool false] := Box.newAt (by simp)
  have C0 : CutS ((w.alloc (.cells Zs 32)).alloc (.cells #[.slice ao N cap, .int .i64 0, .bool false] 74)) (w.heap.size + 1) (.slice ao N cap) b (some b) := ⟨⟨0, false, br, Nat.zero_le _, rfl⟩, HSP.out.up uz⟩
  have k0 := qNumber_S C0 HL.out 1 (by omega) (by omega)
  rw [e0] at k0
  refine k0.mono ?_
  rintro e w2 ⟨rfl, C2, g2⟩
  have U2 : Up w w2 := Below.trans uz (g2.below (by omega) uz.size)
  have b2 := bz.but g2 (show w.heap.size ≠ w.heap.size + 1 by omega)
  obtain ⟨r, hr⟩ : ∃ r, w.heap.size + 1 = r := ⟨_, rfl⟩
  rw [hr] at C2 ⊢
  have hr1 : w.heap.size < r := by omega
  have hr2 : r < w2.heap.size := by
    obtain ⟨⟨_, _, bb, _⟩, _⟩ := C2
    exact bb.lt
  clear k0 C0 br bz uz g2 hr
  obtain ⟨⟨a2, s2', bx, hax, hsx⟩, _⟩ := id C2
  obtain rfl : s2' = false := by
    cases s2' with
    | true => simp at hsx
    | false => rfl
  obtain ⟨x0, x1, x2⟩ := bx.c3
  clear hsx
  have D1 : DcQ w (w2.alloc (.cells #[.int .i64 1, Z, .string es, .int .i64 0, Z, Z, Z, Z, Z, Z, Z] 32)) w.heap.size w2.heap.size r (.slice ao N cap) b (some b1) #[.int .i64 1, Z, .string es, .int .i64 0, Z, Z, Z, Z, Z, Z, Z] :=
    ⟨U2.trans (Up.alloc _ _), C2.up (Up.alloc _ _), b2.alloc _, Box.new _ _ _, Nat.le_refl _, hr1, hr2⟩
  obtain ⟨N1, hN1⟩ : ∃ N1, w2.heap.size = N1 := ⟨_, rfl⟩
  rw [hN1] at D1 hr2
  clear b2 U2 C2
  go_wp2_with fail
  have k : ∀ u, CutS u r (.slice ao N cap) b (some b1) → Calls Tryd.prog 41 #[.pointer (some ⟨r, 0, none⟩), .int .i64 8] u fun e w' => e = .returned (V f) ∧ CutS w' r (.slice ao N cap) b s2 ∧ But r u w' := fun u hu => by
    have := qNumber_S hu HL.out 8 (by omega) (by omega)
    rw [E1.out] at this
    exact this
  refine (k _ D1.cu).mono ?_
  rintro e w6 ⟨rfl, R5, g5⟩
  replace D1 := D1.read R5 g5
  clear k R5 g5
  clear x0 x1 x2 bx hax
  obtain ⟨c0, c1, c2, c3, c4, c5, c6, c7, c8, c9, c10⟩ := D1.b1.c11
  have cf := D1.b1.frozen
  have cl := D1.b1.lt
  go_wp2_with fail
  clear c0 c1 c2 c3 c4 c5 c6 c7 c8 c9 c10 cf cl
  replace D1 := (D1.set 1 (V f)).cast (ds := #[.int .i64 1, V f, .string es, .int .i64 0, Z, Z, Z, Z, Z, Z, Z]) rfl
  generalize World.setCell w6 _ _ = w7 at *
  obtain ⟨c0, c1, c2, c3, c4, c5, c6, c7, c8, c9, c10⟩ := D1.b1.c11
  have cf := D1.b1.frozen
  have cl := D1.b1.lt
  have k : ∀ u, CutS u r (.slice ao N cap) b s2 → Calls Tryd.prog 42 #[.pointer (some ⟨r, 0, none⟩)] u fun e w' => e = .returned (.string S) ∧ CutS w' r (.slice ao N cap) b s3 ∧ But r u w' := fun u hu => by
    have := qText_S hu HL.out
    rw [E2.out] at this
    simp only [hS.out] at this
    exact this
  refine (k _ D1.cu).mono ?_
  rintro e w8 ⟨rfl, R5, g5⟩
  replace D1 := D1.read R5 g5
  clear k R5 g5
  clear c0 c1 c2 c3 c4 c5 c6 c7 c8 c9 c10 cf cl
  obtain ⟨c0, c1, c2, c3, c4, c5, c6, c7, c8, c9, c10⟩ := D1.b1.c11
  have cf := D1.b1.frozen
  have cl := D1.b1.lt
  go_wp2_with fail
  clear c0 c1 c2 c3 c4 c5 c6 c7 c8 c9 c10 cf cl
  replace D1 := (D1.set 2 (.string S)).cast (ds := #[.int .i64 1, V f, .string S, .int .i64 0, Z, Z, Z, Z, Z, Z, Z]) rfl
  generalize World.setCell w8 _ _ = w9 at *
  obtain ⟨c0, c1, c2, c3, c4, c5, c6, c7, c8, c9, c10⟩ := D1.b1.c11
  have cf := D1.b1.frozen
  have cl := D1.b1.lt
  have k : ∀ u, CutS u r (.slice ao N cap) b s3 → Calls Tryd.prog 41 #[.pointer (some ⟨r, 0, none⟩), .int .i64 1] u fun e w' => e = .returned (V 1) ∧ CutS w' r (.slice ao N cap) b s4 ∧ But r u w' := fun u hu => by
    have := qNumber_S hu HL.out 1 (by omega) (by omega)
    rw [E3.out] at this
    exact this
  refine (k _ D1.cu).mono ?_
  rintro e w10 ⟨rfl, R5, g5⟩
  replace D1 := D1.read R5 g5
  clear k R5 g5
  clear c0 c1 c2 c3 c4 c5 c6 c7 c8 c9 c10 cf cl
  obtain ⟨c0, c1, c2, c3, c4, c5, c6, c7, c8, c9, c10⟩ := D1.b1.c11
  have cf := D1.b1.frozen
  have cl := D1.b1.lt
  go_wp2_with fail
  have k : ∀ u, CutS u r (.slice ao N cap) b s4 → Calls Tryd.prog 41 #[.pointer (some ⟨r, 0, none⟩), .int .i64 8] u fun e w' => e = .returned (V y) ∧ CutS w' r (.slice ao N cap) b s5 ∧ But r u w' := fun u hu => by
    have := qNumber_S hu HL.out 8 (by omega) (by omega)
    rw [E4.out] at this
    exact this
  refine (k _ D1.cu).mono ?_
  rintro e w11 ⟨rfl, R5, g5⟩
  replace D1 := D1.read R5 g5
  clear k R5 g5
  clear c0 c1 c2 c3 c4 c5 c6 c7 c8 c9 c10 cf cl
  obtain ⟨c0, c1, c2, c3, c4, c5, c6, c7, c8, c9, c10⟩ := D1.b1.c11
  have cf := D1.b1.frozen
  have cl := D1.b1.lt
  go_wp2_with fail
  have k : ∀ u, CutS u r (.slice ao N cap) b s5 → Calls Tryd.prog 41 #[.pointer (some ⟨r, 0, none⟩), .int .i64 8] u fun e w' => e = .returned (V z) ∧ CutS w' r (.slice ao N cap) b s6 ∧ But r u w' := fun u hu => by
    have := qNumber_S hu HL.out 8 (by omega) (by omega)
    rw [E5.out] at this
    exact this
  refine (k _ D1.cu).mono ?_
  rintro e w12 ⟨rfl, R5, g5⟩
  replace D1 := D1.read R5 g5
  clear k R5 g5
  clear c0 c1 c2 c3 c4 c5 c6 c7 c8 c9 c10 cf cl
  obtain ⟨c0, c1, c2, c3, c4, c5, c6, c7, c8, c9, c10⟩ := D1.b1.c11
  have cf := D1.b1.frozen
  have cl := D1.b1.lt
  go_wp2_with fail
  refine (qPolicy_1 y z _).mono ?_
  rintro e w13 ⟨rfl, u13⟩
  replace D1 := D1.up' u13
  clear u13
  clear c0 c1 c2 c3 c4 c5 c6 c7 c8 c9 c10 cf cl
  obtain ⟨c0, c1, c2, c3, c4, c5, c6, c7, c8, c9, c10⟩ := D1.b1.c11
  have cf := D1.b1.frozen
  have cl := D1.b1.lt
  go_upto_region 20 with fail
  clear c0 c1 c2 c3 c4 c5 c6 c7 c8 c9 c10 cf cl
  replace D1 := (((((D1.set 3 (.int .i64 1)).set 4 (V y)).set 5 (V z)).set 6 Z).set 7 Z).cast (ds := #[.int .i64 1, V f, .string S, .int .i64 1, V y, V z, Z, Z, Z, Z, Z]) rfl
  generalize World.setCell (World.setCell _ _ _) _ _ = w14 at *
  rcases hse : s6 with _ | l
  · rw [hse] at D1
    obtain ⟨⟨ax, sx, bx, hax, hsx⟩, _⟩ := id D1.cu
    obtain rfl : sx = true := by
      cases sx with
      | true => rfl
      | false => simp at hsx
    obtain ⟨x0, x1, x2⟩ := bx.c3
    clear hsx
    have zb0 := D1.b0
    obtain ⟨z0, z1, z2, z3, z4, z5, z6, z7, z8, z9, z10⟩ := zb0.c11
    have zf := zb0.frozen
    have zl := zb0.lt
    have UD := D1.up
    go_wp2
    have bF := boxSet11 zb0 (.int .i64 0) Z (.string es) (.int .i64 0) Z Z Z Z Z Z Z
    have UF := up_set11 UD (Nat.le_refl _) (.int .i64 0) Z (.string es) (.int .i64 0) Z Z Z Z Z Z Z
    clear z0 z1 z2 z3 z4 z5 z6 z7 z8 z9 z10 zf zb0 UD x0 x1 x2 bx hax D1
    generalize World.setCell (World.setCell _ _ _) _ _ = wz at *
    obtain ⟨z0, z1, z2, z3, z4, z5, z6, z7, z8, z9, z10⟩ := bF.c11
    exact bodyPost_ret (v := .tuple #[.agg Zs, .int .i64 2]) (by simp [results, Tryd.results20, go_sem, z0, z1, z2, z3, z4, z5, z6, z7, z8, z9, z10]) rfl ⟨by rw [hse]; rfl, UF⟩
  · rw [hse] at D1
    obtain ⟨⟨ax, sx, bx, hax, hsx⟩, _⟩ := id D1.cu
    obtain rfl : sx = false := by
      cases sx with
      | true => simp at hsx
      | false => rfl
    obtain ⟨x0, x1, x2⟩ := bx.c3
    have hax2 := hax
    rw [HN.out] at hax2
    have hl2 : l = b.drop ax := by simpa using hsx
    have hll : l.length = N - ax := by rw [hl2, List.length_drop, HN.out]
    clear hsx hl2 hax
    obtain ⟨c0, c1, c2, c3, c4, c5, c6, c7, c8, c9, c10⟩ := D1.b1.c11
    have cf := D1.b1.frozen
    have cl := D1.b1.lt
    go_wp2_with fail
    refine (hV _).mono ?_
    rintro e wB ⟨rfl, uB⟩
    replace D1 := D1.up' uB
    replace bx := bx.up uB
    clear uB hV x0 x1 x2
    clear c0 c1 c2 c3 c4 c5 c6 c7 c8 c9 c10 cf cl
    obtain ⟨x0, x1, x2⟩ := bx.c3
    rcases l with _ | ⟨cc, ll⟩
    · have hq : ax = N := by simp at hll; omega
      have hq2 : ((ax : Int) == (N : Int)) = true := by simp; omega
      clear hll hax2
      cases o
      · have zb0 := D1.b0
        obtain ⟨z0, z1, z2, z3, z4, z5, z6, z7, z8, z9, z10⟩ := zb0.c11
        have zf := zb0.frozen
        have zl := zb0.lt
        have UD := D1.up
        go_wp2
        have bF := boxSet11 zb0 (.int .i64 0) Z (.string es) (.int .i64 0) Z Z Z Z Z Z Z
        have UF := up_set11 UD (Nat.le_refl _) (.int .i64 0) Z (.string es) (.int .i64 0) Z Z Z Z Z Z Z
        clear z0 z1 z2 z3 z4 z5 z6 z7 z8 z9 z10 zf zb0 UD x0 x1 x2 bx D1
        generalize World.setCell (World.setCell _ _ _) _ _ = wz at *
        obtain ⟨z0, z1, z2, z3, z4, z5, z6, z7, z8, z9, z10⟩ := bF.c11
        exact bodyPost_ret (v := .tuple #[.agg Zs, .int .i64 3]) (by simp [results, Tryd.results20, go_sem, z0, z1, z2, z3, z4, z5, z6, z7, z8, z9, z10]) rfl ⟨by rw [hse]; rfl, UF⟩
      · obtain ⟨c0, c1, c2, c3, c4, c5, c6, c7, c8, c9, c10⟩ := D1.b1.c11
        have cf := D1.b1.frozen
        have cl := D1.b1.lt
        have zb0 := D1.b0
        obtain ⟨z0, z1, z2, z3, z4, z5, z6, z7, z8, z9, z10⟩ := zb0.c11
        have zf := zb0.frozen
        have zl := zb0.lt
        have UD := D1.up
        have hNN : w.heap.size ≠ N1 := by omega
        go_wp2
        have bF := boxSet11 zb0 (.int .i64 1) (V f) (.string S) (.int .i64 1) (V y) (V z) (Z) (Z) (Z) (Z) (Z)
        have UF := up_set11 UD (Nat.le_refl _) (.int .i64 1) (V f) (.string S) (.int .i64 1) (V y) (V z) (Z) (Z) (Z) (Z) (Z)
        clear z0 z1 z2 z3 z4 z5 z6 z7 z8 z9 z10 zf zb0 UD D1 x0 x1 x2 bx
        clear c0 c1 c2 c3 c4 c5 c6 c7 c8 c9 c10 cf cl
        generalize World.setCell (World.setCell _ _ _) _ _ = wz at *
        obtain ⟨z0, z1, z2, z3, z4, z5, z6, z7, z8, z9, z10⟩ := bF.c11
        exact bodyPost_ret (v := .tuple #[.agg #[.int .i64 1, V f, .string S, .int .i64 1, V y, V z, Z, Z, Z, Z, Z], .int .i64 0]) (by simp [results, Tryd.results20, go_sem, z0, z1, z2, z3, z4, z5, z6, z7, z8, z9, z10]) rfl ⟨by rw [hse]; rfl, UF⟩
    · have hq2 : ((ax : Int) != (N : Int)) = true := by simp at hll; simp; omega
      clear hll hax2
      have zb0 := D1.b0
      obtain ⟨z0, z1, z2, z3, z4, z5, z6, z7, z8, z9, z10⟩ := zb0.c11
      have zf := zb0.frozen
      have zl := zb0.lt
      have UD := D1.up
      go_wp2
      have bF := boxSet11 zb0 (.int .i64 0) Z (.string es) (.int .i64 0) Z Z Z Z Z Z Z
      have UF := up_set11 UD (Nat.le_refl _) (.int .i64 0) Z (.string es) (.int .i64 0) Z Z Z Z Z Z Z
      clear z0 z1 z2 z3 z4 z5 z6 z7 z8 z9 z10 zf zb0 UD x0 x1 x2 bx D1
      generalize World.setCell (World.setCell _ _ _) _ _ = wz at *
      obtain ⟨z0, z1, z2, z3, z4, z5, z6, z7, z8, z9, z10⟩ := bF.c11
      exact bodyPost_ret (v := .tuple #[.agg Zs, .int .i64 3]) (by simp [results, Tryd.results20, go_sem, z0, z1, z2, z3, z4, z5, z6, z7, z8, z9, z10]) rfl ⟨by rw [hse]; cases o <;> rfl, UF⟩

set_option maxRecDepth 20000 in
set_option maxHeartbeats 3200000 in
theorem qDecode_grid (base : Nat) (v : Value) (b : List UInt8) (w : World) (hs : Sl base w v b) (hl : (b.length : Int) ≤ 140737488351232) {b1 key : List UInt8} {f : Nat} {s2 s3 : Option (List UInt8)} {s4 s5 s6 : Option (List UInt8)} {x y z : Nat} (o : Bool) (e0 : rdA 1 (some b) = (1, some b1)) (e1 : rdA 8 (some b1) = (f, s2)) (e2 : rdTA s2 = (key, s3)) (e3 : rdA 1 s3 = (x, s4)) (e4 : rdA 8 s4 = (y, s5)) (e5 : rdA 8 s5 = (z, s6)) (hx : ((x : Int) == 1) = false) (S : ByteArray) (hS : Hid ((⟨key.toArray⟩ : ByteArray) = S))
    (hV : ∀ w, Calls Tryd.prog 17 #[.agg #[.int .i64 1, V f, .string S, .int .i64 (x : Int), Z, Z, V y, V z, Z, Z, Z]] w fun e w' => e = .returned (.bool o) ∧ Up w w') :
    Calls Tryd.prog 20 #[v] w fun e w' => e = .returned (qdecT s6 o (.agg #[.int .i64 1, V f, .string S, .int .i64 (x : Int), Z, Z, V y, V z, Z, Z, Z])) ∧ Up w w' := by
  have E1 : Hid (rdA 8 (some b1) = (f, s2)) := e1
  have E2 : Hid (rdTA s2 = (key, s3)) := e2
  clear e1 e2
  have hb : (x : Int) ≤ 255 := by have := rdA_lt 1 s3; rw [e3] at this; simp only at this; omega
  have E3 : Hid (rdA 1 s3 = (x, s4)) := e3
  have E4 : Hid (rdA 8 s4 = (y, s5)) := e4
  have E5 : Hid (rdA 8 s5 = (z, s6)) := e5
  clear e3 e4 e5
  obtain ⟨ao, cap, rfl, hq1, hq2, hq3⟩ := id hs
  have hslp : SlP (fun b => b < w.heap.size + 1) w (.slice ao b.length cap) b := ⟨_, _, rfl, hq1, hq2, fun hne => by
    obtain ⟨bb, oo, e, _, ha⟩ := hq3 hne
    exact ⟨bb, oo, e, by have := ha.lt hne; omega, ha⟩⟩
  obtain ⟨N, hN⟩ : ∃ N, b.length = N := ⟨_, rfl⟩
  have HN : Hid (b.length = N) := hN
  have HL : Hid ((b.length : Int) ≤ 140737488351232) := hl
  rw [hN] at hl hslp ⊢
  clear hN hq1 hq2 hq3 hs
  have HSP : Hid (SlP (fun b => b < w.heap.size + 1) w (.slice ao N cap) b) := hslp
  clear hslp
  go_enter Tryd.func20, Tryd.ntmps20
  go_wp2_with fail
  have uz : Up w ((w.alloc (.cells Zs 32)).alloc (.cells #[.slice ao N cap, .int .i64 0, .bool false] 74)) := (Up.alloc _ _).trans (Up.alloc _ _)
  have bz : Box ((w.alloc (.cells Zs 32)).alloc (.cells #[.slice ao N cap, .int .i64 0, .bool false] 74)) w.heap.size Zs := (Box.new _ _ _).alloc _
  have br : Box ((w.alloc (.cells Zs 32)).alloc (.cells #[.slice ao N cap, .int .i64 0, .bool false] 74)) (w.heap.size + 1) #[.slice ao N cap, .int .i64 ((0 : Nat) : Int), .bool false] := Box.newAt (by simp)
  have C0 : CutS ((w.alloc (.cells Zs 32)).alloc (.cells #[.slice ao N cap, .int .i64 0, .bool false] 74)) (w.heap.size + 1) (.slice ao N cap) b (some b) := ⟨⟨0, false, br, Nat.zero_le _, rfl⟩, HSP.out.up uz⟩
  have k0 := qNumber_S C0 HL.out 1 (by omega) (by omega)
  rw [e0] at k0
  refine k0.mono ?_
  rintro e w2 ⟨rfl, C2, g2⟩
  have U2 : Up w w2 := Below.trans uz (g2.below (by omega) uz.size)
  have b2 := bz.but g2 (show w.heap.size ≠ w.heap.size + 1 by omega)
  obtain ⟨r, hr⟩ : ∃ r, w.heap.size + 1 = r := ⟨_, rfl⟩
  rw [hr] at C2 ⊢
  have hr1 : w.heap.size < r := by omega
  have hr2 : r < w2.heap.size := by
    obtain ⟨⟨_, _, bb, _⟩, _⟩ := C2
    exact bb.lt
  clear k0 C0 br bz uz g2 hr
  obtain ⟨⟨a2, s2', bx, hax, hsx⟩, _⟩ := id C2
  obtain rfl : s2' = false := by
    cases s2' with
    | true => simp at hsx
    | false => rfl
  obtain ⟨x0, x1, x2⟩ := bx.c3
  clear hsx
  have D1 : DcQ w (w2.alloc (.cells #[.int .i64 1, Z, .string es, .int .i64 0, Z, Z, Z, Z, Z, Z, Z] 32)) w.heap.size w2.heap.size r (.slice ao N cap) b (some b1) #[.int .i64 1, Z, .string es, .int .i64 0, Z, Z, Z, Z, Z, Z, Z] :=
    ⟨U2.trans (Up.alloc _ _), C2.up (Up.alloc _ _), b2.alloc _, Box.new _ _ _, Nat.le_refl _, hr1, hr2⟩
  obtain ⟨N1, hN1⟩ : ∃ N1, w2.heap.size = N1 := ⟨_, rfl⟩
  rw [hN1] at D1 hr2
  clear b2 U2 C2
  go_wp2_with fail
  have k : ∀ u, CutS u r (.slice ao N cap) b (some b1) → Calls Tryd.prog 41 #[.pointer (some ⟨r, 0, none⟩), .int .i64 8] u fun e w' => e = .returned (V f) ∧ CutS w' r (.slice ao N cap) b s2 ∧ But r u w' := fun u hu => by
    have := qNumber_S hu HL.out 8 (by omega) (by omega)
    rw [E1.out] at this
    exact this
  refine (k _ D1.cu).mono ?_
  rintro e w6 ⟨rfl, R5, g5⟩
  replace D1 := D1.read R5 g5
  clear k R5 g5
  clear x0 x1 x2 bx hax
  obtain ⟨c0, c1, c2, c3, c4, c5, c6, c7, c8, c9, c10⟩ := D1.b1.c11
  have cf := D1.b1.frozen
  have cl := D1.b1.lt
  go_wp2_with fail
  clear c0 c1 c2 c3 c4 c5 c6 c7 c8 c9 c10 cf cl
  replace D1 := (D1.set 1 (V f)).cast (ds := #[.int .i64 1, V f, .string es, .int .i64 0, Z, Z, Z, Z, Z, Z, Z]) rfl
  generalize World.setCell w6 _ _ = w7 at *
  obtain ⟨c0, c1, c2, c3, c4, c5, c6, c7, c8, c9, c10⟩ := D1.b1.c11
  have cf := D1.b1.frozen
  have cl := D1.b1.lt
  have k : ∀ u, CutS u r (.slice ao N cap) b s2 → Calls Tryd.prog 42 #[.pointer (some ⟨r, 0, none⟩)] u fun e w' => e = .returned (.string S) ∧ CutS w' r (.slice ao N cap) b s3 ∧ But r u w' := fun u hu => by
    have := qText_S hu HL.out
    rw [E2.out] at this
    simp only [hS.out] at this
    exact this
  refine (k _ D1.cu).mono ?_
  rintro e w8 ⟨rfl, R5, g5⟩
  replace D1 := D1.read R5 g5
  clear k R5 g5
  clear c0 c1 c2 c3 c4 c5 c6 c7 c8 c9 c10 cf cl
  obtain ⟨c0, c1, c2, c3, c4, c5, c6, c7, c8, c9, c10⟩ := D1.b1.c11
  have cf := D1.b1.frozen
  have cl := D1.b1.lt
  go_wp2_with fail
  clear c0 c1 c2 c3 c4 c5 c6 c7 c8 c9 c10 cf cl
  replace D1 := (D1.set 2 (.string S)).cast (ds := #[.int .i64 1, V f, .string S, .int .i64 0, Z, Z, Z, Z, Z, Z, Z]) rfl
  generalize World.setCell w8 _ _ = w9 at *
  obtain ⟨c0, c1, c2, c3, c4, c5, c6, c7, c8, c9, c10⟩ := D1.b1.c11
  have cf := D1.b1.frozen
  have cl := D1.b1.lt
  have k : ∀ u, CutS u r (.slice ao N cap) b s3 → Calls Tryd.prog 41 #[.pointer (some ⟨r, 0, none⟩), .int .i64 1] u fun e w' => e = .returned (V x) ∧ CutS w' r (.slice ao N cap) b s4 ∧ But r u w' := fun u hu => by
    have := qNumber_S hu HL.out 1 (by omega) (by omega)
    rw [E3.out] at this
    exact this
  refine (k _ D1.cu).mono ?_
  rintro e w10 ⟨rfl, R5, g5⟩
  replace D1 := D1.read R5 g5
  clear k R5 g5
  clear c0 c1 c2 c3 c4 c5 c6 c7 c8 c9 c10 cf cl
  obtain ⟨c0, c1, c2, c3, c4, c5, c6, c7, c8, c9, c10⟩ := D1.b1.c11
  have cf := D1.b1.frozen
  have cl := D1.b1.lt
  go_wp2_with fail
  have k : ∀ u, CutS u r (.slice ao N cap) b s4 → Calls Tryd.prog 41 #[.pointer (some ⟨r, 0, none⟩), .int .i64 8] u fun e w' => e = .returned (V y) ∧ CutS w' r (.slice ao N cap) b s5 ∧ But r u w' := fun u hu => by
    have := qNumber_S hu HL.out 8 (by omega) (by omega)
    rw [E4.out] at this
    exact this
  refine (k _ D1.cu).mono ?_
  rintro e w11 ⟨rfl, R5, g5⟩
  replace D1 := D1.read R5 g5
  clear k R5 g5
  clear c0 c1 c2 c3 c4 c5 c6 c7 c8 c9 c10 cf cl
  obtain ⟨c0, c1, c2, c3, c4, c5, c6, c7, c8, c9, c10⟩ := D1.b1.c11
  have cf := D1.b1.frozen
  have cl := D1.b1.lt
  go_wp2_with fail
  have k : ∀ u, CutS u r (.slice ao N cap) b s5 → Calls Tryd.prog 41 #[.pointer (some ⟨r, 0, none⟩), .int .i64 8] u fun e w' => e = .returned (V z) ∧ CutS w' r (.slice ao N cap) b s6 ∧ But r u w' := fun u hu => by
    have := qNumber_S hu HL.out 8 (by omega) (by omega)
    rw [E5.out] at this
    exact this
  refine (k _ D1.cu).mono ?_
  rintro e w12 ⟨rfl, R5, g5⟩
  replace D1 := D1.read R5 g5
  clear k R5 g5
  clear c0 c1 c2 c3 c4 c5 c6 c7 c8 c9 c10 cf cl
  obtain ⟨c0, c1, c2, c3, c4, c5, c6, c7, c8, c9, c10⟩ := D1.b1.c11
  have cf := D1.b1.frozen
  have cl := D1.b1.lt
  go_wp2_with fail
  refine (qPolicy_2 (x : Int) y z hx _).mono ?_
  rintro e w13 ⟨rfl, u13⟩
  replace D1 := D1.up' u13
  clear u13
  clear c0 c1 c2 c3 c4 c5 c6 c7 c8 c9 c10 cf cl
  obtain ⟨c0, c1, c2, c3, c4, c5, c6, c7, c8, c9, c10⟩ := D1.b1.c11
  have cf := D1.b1.frozen
  have cl := D1.b1.lt
  go_upto_region 20 with fail
  clear c0 c1 c2 c3 c4 c5 c6 c7 c8 c9 c10 cf cl
  replace D1 := (((((D1.set 3 (.int .i64 (x : Int))).set 4 Z).set 5 Z).set 6 (V y)).set 7 (V z)).cast (ds := #[.int .i64 1, V f, .string S, .int .i64 (x : Int), Z, Z, V y, V z, Z, Z, Z]) rfl
  generalize World.setCell (World.setCell _ _ _) _ _ = w14 at *
  rcases hse : s6 with _ | l
  · rw [hse] at D1
    obtain ⟨⟨ax, sx, bx, hax, hsx⟩, _⟩ := id D1.cu
    obtain rfl : sx = true := by
      cases sx with
      | true => rfl
      | false => simp at hsx
    obtain ⟨x0, x1, x2⟩ := bx.c3
    clear hsx
    have zb0 := D1.b0
    obtain ⟨z0, z1, z2, z3, z4, z5, z6, z7, z8, z9, z10⟩ := zb0.c11
    have zf := zb0.frozen
    have zl := zb0.lt
    have UD := D1.up
    go_wp2
    have bF := boxSet11 zb0 (.int .i64 0) Z (.string es) (.int .i64 0) Z Z Z Z Z Z Z
    have UF := up_set11 UD (Nat.le_refl _) (.int .i64 0) Z (.string es) (.int .i64 0) Z Z Z Z Z Z Z
    clear z0 z1 z2 z3 z4 z5 z6 z7 z8 z9 z10 zf zb0 UD x0 x1 x2 bx hax D1
    generalize World.setCell (World.setCell _ _ _) _ _ = wz at *
    obtain ⟨z0, z1, z2, z3, z4, z5, z6, z7, z8, z9, z10⟩ := bF.c11
    exact bodyPost_ret (v := .tuple #[.agg Zs, .int .i64 2]) (by simp [results, Tryd.results20, go_sem, z0, z1, z2, z3, z4, z5, z6, z7, z8, z9, z10]) rfl ⟨by rw [hse]; rfl, UF⟩
  · rw [hse] at D1
    obtain ⟨⟨ax, sx, bx, hax, hsx⟩, _⟩ := id D1.cu
    obtain rfl : sx = false := by
      cases sx with
      | true => simp at hsx
      | false => rfl
    obtain ⟨x0, x1, x2⟩ := bx.c3
    have hax2 := hax
    rw [HN.out] at hax2
    have hl2 : l = b.drop ax := by simpa using hsx
    have hll : l.length = N - ax := by rw [hl2, List.length_drop, HN.out]
    clear hsx hl2 hax
    obtain ⟨c0, c1, c2, c3, c4, c5, c6, c7, c8, c9, c10⟩ := D1.b1.c11
    have cf := D1.b1.frozen
    have cl := D1.b1.lt
    go_wp2_with fail
    refine (hV _).mono ?_
    rintro e wB ⟨rfl, uB⟩
    replace D1 := D1.up' uB
    replace bx := bx.up uB
    clear uB hV x0 x1 x2
    clear c0 c1 c2 c3 c4 c5 c6 c7 c8 c9 c10 cf cl
    obtain ⟨x0, x1, x2⟩ := bx.c3
    rcases l with _ | ⟨cc, ll⟩
    · have hq : ax = N := by simp at hll; omega
      have hq2 : ((ax : Int) == (N : Int)) = true := by simp; omega
      clear hll hax2
      cases o
      · have zb0 := D1.b0
        obtain ⟨z0, z1, z2, z3, z4, z5, z6, z7, z8, z9, z10⟩ := zb0.c11
        have zf := zb0.frozen
        have zl := zb0.lt
        have UD := D1.up
        go_wp2
        have bF := boxSet11 zb0 (.int .i64 0) Z (.string es) (.int .i64 0) Z Z Z Z Z Z Z
        have UF := up_set11 UD (Nat.le_refl _) (.int .i64 0) Z (.string es) (.int .i64 0) Z Z Z Z Z Z Z
        clear z0 z1 z2 z3 z4 z5 z6 z7 z8 z9 z10 zf zb0 UD x0 x1 x2 bx D1
        generalize World.setCell (World.setCell _ _ _) _ _ = wz at *
        obtain ⟨z0, z1, z2, z3, z4, z5, z6, z7, z8, z9, z10⟩ := bF.c11
        exact bodyPost_ret (v := .tuple #[.agg Zs, .int .i64 3]) (by simp [results, Tryd.results20, go_sem, z0, z1, z2, z3, z4, z5, z6, z7, z8, z9, z10]) rfl ⟨by rw [hse]; rfl, UF⟩
      · obtain ⟨c0, c1, c2, c3, c4, c5, c6, c7, c8, c9, c10⟩ := D1.b1.c11
        have cf := D1.b1.frozen
        have cl := D1.b1.lt
        have zb0 := D1.b0
        obtain ⟨z0, z1, z2, z3, z4, z5, z6, z7, z8, z9, z10⟩ := zb0.c11
        have zf := zb0.frozen
        have zl := zb0.lt
        have UD := D1.up
        have hNN : w.heap.size ≠ N1 := by omega
        go_wp2
        have bF := boxSet11 zb0 (.int .i64 1) (V f) (.string S) (.int .i64 (x : Int)) (Z) (Z) (V y) (V z) (Z) (Z) (Z)
        have UF := up_set11 UD (Nat.le_refl _) (.int .i64 1) (V f) (.string S) (.int .i64 (x : Int)) (Z) (Z) (V y) (V z) (Z) (Z) (Z)
        clear z0 z1 z2 z3 z4 z5 z6 z7 z8 z9 z10 zf zb0 UD D1 x0 x1 x2 bx
        clear c0 c1 c2 c3 c4 c5 c6 c7 c8 c9 c10 cf cl
        generalize World.setCell (World.setCell _ _ _) _ _ = wz at *
        obtain ⟨z0, z1, z2, z3, z4, z5, z6, z7, z8, z9, z10⟩ := bF.c11
        exact bodyPost_ret (v := .tuple #[.agg #[.int .i64 1, V f, .string S, .int .i64 (x : Int), Z, Z, V y, V z, Z, Z, Z], .int .i64 0]) (by simp [results, Tryd.results20, go_sem, z0, z1, z2, z3, z4, z5, z6, z7, z8, z9, z10]) rfl ⟨by rw [hse]; rfl, UF⟩
    · have hq2 : ((ax : Int) != (N : Int)) = true := by simp at hll; simp; omega
      clear hll hax2
      have zb0 := D1.b0
      obtain ⟨z0, z1, z2, z3, z4, z5, z6, z7, z8, z9, z10⟩ := zb0.c11
      have zf := zb0.frozen
      have zl := zb0.lt
      have UD := D1.up
      go_wp2
      have bF := boxSet11 zb0 (.int .i64 0) Z (.string es) (.int .i64 0) Z Z Z Z Z Z Z
      have UF := up_set11 UD (Nat.le_refl _) (.int .i64 0) Z (.string es) (.int .i64 0) Z Z Z Z Z Z Z
      clear z0 z1 z2 z3 z4 z5 z6 z7 z8 z9 z10 zf zb0 UD x0 x1 x2 bx D1
      generalize World.setCell (World.setCell _ _ _) _ _ = wz at *
      obtain ⟨z0, z1, z2, z3, z4, z5, z6, z7, z8, z9, z10⟩ := bF.c11
      exact bodyPost_ret (v := .tuple #[.agg Zs, .int .i64 3]) (by simp [results, Tryd.results20, go_sem, z0, z1, z2, z3, z4, z5, z6, z7, z8, z9, z10]) rfl ⟨by rw [hse]; cases o <;> rfl, UF⟩

set_option maxRecDepth 20000 in
set_option maxHeartbeats 3200000 in
theorem qDecode_ceil (base : Nat) (v : Value) (b : List UInt8) (w : World) (hs : Sl base w v b) (hl : (b.length : Int) ≤ 140737488351232) {b1 key : List UInt8} {f : Nat} {s2 s3 : Option (List UInt8)} {s4 s5 s6 : Option (List UInt8)} {x y z : Nat} (o : Bool) (e0 : rdA 1 (some b) = (3, some b1)) (e1 : rdA 8 (some b1) = (f, s2)) (e2 : rdTA s2 = (key, s3)) (e3 : rdA 8 s3 = (x, s4)) (e4 : rdA 8 s4 = (y, s5)) (e5 : rdA 8 s5 = (z, s6)) (S : ByteArray) (hS : Hid ((⟨key.toArray⟩ : ByteArray) = S))
    (hV : ∀ w, Calls Tryd.prog 17 #[.agg #[.int .i64 3, V f, .string S, .int .i64 0, Z, Z, Z, Z, V x, V y, V z]] w fun e w' => e = .returned (.bool o) ∧ Up w w') :
    Calls Tryd.prog 20 #[v] w fun e w' => e = .returned (qdecT s6 o (.agg #[.int .i64 3, V f, .string S, .int .i64 0, Z, Z, Z, Z, V x, V y, V z])) ∧ Up w w' := by
  have E1 : Hid (rdA 8 (some b1) = (f, s2)) := e1
  have E2 : Hid (rdTA s2 = (key, s3)) := e2
  clear e1 e2
  have E3 : Hid (rdA 8 s3 = (x, s4)) := e3
  have E4 : Hid (rdA 8 s4 = (y, s5)) := e4
  have E5 : Hid (rdA 8 s5 = (z, s6)) := e5
  clear e3 e4 e5
  obtain ⟨ao, cap, rfl, hq1, hq2, hq3⟩ := id hs
  have hslp : SlP (fun b => b < w.heap.size + 1) w (.slice ao b.length cap) b := ⟨_, _, rfl, hq1, hq2, fun hne => by
    obtain ⟨bb, oo, e, _, ha⟩ := hq3 hne
    exact ⟨bb, oo, e, by have := ha.lt hne; omega, ha⟩⟩
  obtain ⟨N, hN⟩ : ∃ N, b.length = N := ⟨_, rfl⟩
  have HN : Hid (b.length = N) := hN
  have HL : Hid ((b.length : Int) ≤ 140737488351232) := hl
  rw [hN] at hl hslp ⊢
  clear hN hq1 hq2 hq3 hs
  have HSP : Hid (SlP (fun b => b < w.heap.size + 1) w (.slice ao N cap) b) := hslp
  clear hslp
  go_enter Tryd.func20, Tryd.ntmps20
  go_wp2_with fail
  have uz : Up w ((w.alloc (.cells Zs 32)).alloc (.cells #[.slice ao N cap, .int .i64 0, .bool false] 74)) := (Up.alloc _ _).trans (Up.alloc _ _)
  have bz : Box ((w.alloc (.cells Zs 32)).alloc (.cells #[.slice ao N cap, .int .i64 0, .bool false] 74)) w.heap.size Zs := (Box.new _ _ _).alloc _
  have br : Box ((w.alloc (.cells Zs 32)).alloc (.cells #[.slice ao N cap, .int .i64 0, .bool false] 74)) (w.heap.size + 1) #[.slice ao N cap, .int .i64 ((0 : Nat) : Int), .bool false] := Box.newAt (by simp)
  have C0 : CutS ((w.alloc (.cells Zs 32)).alloc (.cells #[.slice ao N cap, .int .i64 0, .bool false] 74)) (w.heap.size + 1) (.slice ao N cap) b (some b) := ⟨⟨0, false, br, Nat.zero_le _, rfl⟩, HSP.out.up uz⟩
  have k0 := qNumber_S C0 HL.out 1 (by omega) (by omega)
  rw [e0] at k0
  refine k0.mono ?_
  rintro e w2 ⟨rfl, C2, g2⟩
  have U2 : Up w w2 := Below.trans uz (g2.below (by omega) uz.size)
  have b2 := bz.but g2 (show w.heap.size ≠ w.heap.size + 1 by omega)
  obtain ⟨r, hr⟩ : ∃ r, w.heap.size + 1 = r := ⟨_, rfl⟩
  rw [hr] at C2 ⊢
  have hr1 : w.heap.size < r := by omega
  have hr2 : r < w2.heap.size := by
    obtain ⟨⟨_, _, bb, _⟩, _⟩ := C2
    exact bb.lt
  clear k0 C0 br bz uz g2 hr
  obtain ⟨⟨a2, s2', bx, hax, hsx⟩, _⟩ := id C2
  obtain rfl : s2' = false := by
    cases s2' with
    | true => simp at hsx
    | false => rfl
  obtain ⟨x0, x1, x2⟩ := bx.c3
  clear hsx
  have D1 : DcQ w (w2.alloc (.cells #[.int .i64 3, Z, .string es, .int .i64 0, Z, Z, Z, Z, Z, Z, Z] 32)) w.heap.size w2.heap.size r (.slice ao N cap) b (some b1) #[.int .i64 3, Z, .string es, .int .i64 0, Z, Z, Z, Z, Z, Z, Z] :=
    ⟨U2.trans (Up.alloc _ _), C2.up (Up.alloc _ _), b2.alloc _, Box.new _ _ _, Nat.le_refl _, hr1, hr2⟩
  obtain ⟨N1, hN1⟩ : ∃ N1, w2.heap.size = N1 := ⟨_, rfl⟩
  rw [hN1] at D1 hr2
  clear b2 U2 C2
  go_wp2_with fail
  have k : ∀ u, CutS u r (.slice ao N cap) b (some b1) → Calls Tryd.prog 41 #[.pointer (some ⟨r, 0, none⟩), .int .i64 8] u fun e w' => e = .returned (V f) ∧ CutS w' r (.slice ao N cap) b s2 ∧ But r u w' := fun u hu => by
    have := qNumber_S hu HL.out 8 (by omega) (by omega)
    rw [E1.out] at this
    exact this
  refine (k _ D1.cu).mono ?_
  rintro e w6 ⟨rfl, R5, g5⟩
  replace D1 := D1.read R5 g5
  clear k R5 g5
  clear x0 x1 x2 bx hax
  obtain ⟨c0, c1, c2, c3, c4, c5, c6, c7, c8, c9, c10⟩ := D1.b1.c11
  have cf := D1.b1.frozen
  have cl := D1.b1.lt
  go_wp2_with fail
  clear c0 c1 c2 c3 c4 c5 c6 c7 c8 c9 c10 cf cl
  replace D1 := (D1.set 1 (V f)).cast (ds := #[.int .i64 3, V f, .string es, .int .i64 0, Z, Z, Z, Z, Z, Z, Z]) rfl
  generalize World.setCell w6 _ _ = w7 at *
  obtain ⟨c0, c1, c2, c3, c4, c5, c6, c7, c8, c9, c10⟩ := D1.b1.c11
  have cf := D1.b1.frozen
  have cl := D1.b1.lt
  have k : ∀ u, CutS u r (.slice ao N cap) b s2 → Calls Tryd.prog 42 #[.pointer (some ⟨r, 0, none⟩)] u fun e w' => e = .returned (.string S) ∧ CutS w' r (.slice ao N cap) b s3 ∧ But r u w' := fun u hu => by
    have := qText_S hu HL.out
    rw [E2.out] at this
    simp only [hS.out] at this
    exact this
  refine (k _ D1.cu).mono ?_
  rintro e w8 ⟨rfl, R5, g5⟩
  replace D1 := D1.read R5 g5
  clear k R5 g5
  clear c0 c1 c2 c3 c4 c5 c6 c7 c8 c9 c10 cf cl
  obtain ⟨c0, c1, c2, c3, c4, c5, c6, c7, c8, c9, c10⟩ := D1.b1.c11
  have cf := D1.b1.frozen
  have cl := D1.b1.lt
  go_wp2_with fail
  clear c0 c1 c2 c3 c4 c5 c6 c7 c8 c9 c10 cf cl
  replace D1 := (D1.set 2 (.string S)).cast (ds := #[.int .i64 3, V f, .string S, .int .i64 0, Z, Z, Z, Z, Z, Z, Z]) rfl
  generalize World.setCell w8 _ _ = w9 at *
  obtain ⟨c0, c1, c2, c3, c4, c5, c6, c7, c8, c9, c10⟩ := D1.b1.c11
  have cf := D1.b1.frozen
  have cl := D1.b1.lt
  have k : ∀ u, CutS u r (.slice ao N cap) b s3 → Calls Tryd.prog 41 #[.pointer (some ⟨r, 0, none⟩), .int .i64 8] u fun e w' => e = .returned (V x) ∧ CutS w' r (.slice ao N cap) b s4 ∧ But r u w' := fun u hu => by
    have := qNumber_S hu HL.out 8 (by omega) (by omega)
    rw [E3.out] at this
    exact this
  refine (k _ D1.cu).mono ?_
  rintro e w10 ⟨rfl, R5, g5⟩
  replace D1 := D1.read R5 g5
  clear k R5 g5
  clear c0 c1 c2 c3 c4 c5 c6 c7 c8 c9 c10 cf cl
  obtain ⟨c0, c1, c2, c3, c4, c5, c6, c7, c8, c9, c10⟩ := D1.b1.c11
  have cf := D1.b1.frozen
  have cl := D1.b1.lt
  go_wp2_with fail
  clear c0 c1 c2 c3 c4 c5 c6 c7 c8 c9 c10 cf cl
  replace D1 := (D1.set 8 (V x)).cast (ds := #[.int .i64 3, V f, .string S, .int .i64 0, Z, Z, Z, Z, V x, Z, Z]) rfl
  generalize World.setCell w10 _ _ = w11 at *
  obtain ⟨c0, c1, c2, c3, c4, c5, c6, c7, c8, c9, c10⟩ := D1.b1.c11
  have cf := D1.b1.frozen
  have cl := D1.b1.lt
  have k : ∀ u, CutS u r (.slice ao N cap) b s4 → Calls Tryd.prog 41 #[.pointer (some ⟨r, 0, none⟩), .int .i64 8] u fun e w' => e = .returned (V y) ∧ CutS w' r (.slice ao N cap) b s5 ∧ But r u w' := fun u hu => by
    have := qNumber_S hu HL.out 8 (by omega) (by omega)
    rw [E4.out] at this
    exact this
  refine (k _ D1.cu).mono ?_
  rintro e w12 ⟨rfl, R5, g5⟩
  replace D1 := D1.read R5 g5
  clear k R5 g5
  clear c0 c1 c2 c3 c4 c5 c6 c7 c8 c9 c10 cf cl
  obtain ⟨c0, c1, c2, c3, c4, c5, c6, c7, c8, c9, c10⟩ := D1.b1.c11
  have cf := D1.b1.frozen
  have cl := D1.b1.lt
  go_wp2_with fail
  clear c0 c1 c2 c3 c4 c5 c6 c7 c8 c9 c10 cf cl
  replace D1 := (D1.set 9 (V y)).cast (ds := #[.int .i64 3, V f, .string S, .int .i64 0, Z, Z, Z, Z, V x, V y, Z]) rfl
  generalize World.setCell w12 _ _ = w13 at *
  obtain ⟨c0, c1, c2, c3, c4, c5, c6, c7, c8, c9, c10⟩ := D1.b1.c11
  have cf := D1.b1.frozen
  have cl := D1.b1.lt
  have k : ∀ u, CutS u r (.slice ao N cap) b s5 → Calls Tryd.prog 41 #[.pointer (some ⟨r, 0, none⟩), .int .i64 8] u fun e w' => e = .returned (V z) ∧ CutS w' r (.slice ao N cap) b s6 ∧ But r u w' := fun u hu => by
    have := qNumber_S hu HL.out 8 (by omega) (by omega)
    rw [E5.out] at this
    exact this
  refine (k _ D1.cu).mono ?_
  rintro e w14 ⟨rfl, R5, g5⟩
  replace D1 := D1.read R5 g5
  clear k R5 g5
  clear c0 c1 c2 c3 c4 c5 c6 c7 c8 c9 c10 cf cl
  obtain ⟨c0, c1, c2, c3, c4, c5, c6, c7, c8, c9, c10⟩ := D1.b1.c11
  have cf := D1.b1.frozen
  have cl := D1.b1.lt
  go_upto_region 20 with fail
  clear c0 c1 c2 c3 c4 c5 c6 c7 c8 c9 c10 cf cl
  replace D1 := (D1.set 10 (V z)).cast (ds := #[.int .i64 3, V f, .string S, .int .i64 0, Z, Z, Z, Z, V x, V y, V z]) rfl
  generalize World.setCell w14 _ _ = w15 at *
  rcases hse : s6 with _ | l
  · rw [hse] at D1
    obtain ⟨⟨ax, sx, bx, hax, hsx⟩, _⟩ := id D1.cu
    obtain rfl : sx = true := by
      cases sx with
      | true => rfl
      | false => simp at hsx
    obtain ⟨x0, x1, x2⟩ := bx.c3
    clear hsx
    have zb0 := D1.b0
    obtain ⟨z0, z1, z2, z3, z4, z5, z6, z7, z8, z9, z10⟩ := zb0.c11
    have zf := zb0.frozen
    have zl := zb0.lt
    have UD := D1.up
    go_wp2
    have bF := boxSet11 zb0 (.int .i64 0) Z (.string es) (.int .i64 0) Z Z Z Z Z Z Z
    have UF := up_set11 UD (Nat.le_refl _) (.int .i64 0) Z (.string es) (.int .i64 0) Z Z Z Z Z Z Z
    clear z0 z1 z2 z3 z4 z5 z6 z7 z8 z9 z10 zf zb0 UD x0 x1 x2 bx hax D1
    generalize World.setCell (World.setCell _ _ _) _ _ = wz at *
    obtain ⟨z0, z1, z2, z3, z4, z5, z6, z7, z8, z9, z10⟩ := bF.c11
    exact bodyPost_ret (v := .tuple #[.agg Zs, .int .i64 2]) (by simp [results, Tryd.results20, go_sem, z0, z1, z2, z3, z4, z5, z6, z7, z8, z9, z10]) rfl ⟨by rw [hse]; rfl, UF⟩
  · rw [hse] at D1
    obtain ⟨⟨ax, sx, bx, hax, hsx⟩, _⟩ := id D1.cu
    obtain rfl : sx = false := by
      cases sx with
      | true => simp at hsx
      | false => rfl
    obtain ⟨x0, x1, x2⟩ := bx.c3
    have hax2 := hax
    rw [HN.out] at hax2
    have hl2 : l = b.drop ax := by simpa using hsx
    have hll : l.length = N - ax := by rw [hl2, List.length_drop, HN.out]
    clear hsx hl2 hax
    obtain ⟨c0, c1, c2, c3, c4, c5, c6, c7, c8, c9, c10⟩ := D1.b1.c11
    have cf := D1.b1.frozen
    have cl := D1.b1.lt
    go_wp2_with fail
    refine (hV _).mono ?_
    rintro e wB ⟨rfl, uB⟩
    replace D1 := D1.up' uB
    replace bx := bx.up uB
    clear uB hV x0 x1 x2
    clear c0 c1 c2 c3 c4 c5 c6 c7 c8 c9 c10 cf cl
    obtain ⟨x0, x1, x2⟩ := bx.c3
    rcases l with _ | ⟨cc, ll⟩
    · have hq : ax = N := by simp at hll; omega
      have hq2 : ((ax : Int) == (N : Int)) = true := by simp; omega
      clear hll hax2
      cases o
      · have zb0 := D1.b0
        obtain ⟨z0, z1, z2, z3, z4, z5, z6, z7, z8, z9, z10⟩ := zb0.c11
        have zf := zb0.frozen
        have zl := zb0.lt
        have UD := D1.up
        go_wp2
        have bF := boxSet11 zb0 (.int .i64 0) Z (.string es) (.int .i64 0) Z Z Z Z Z Z Z
        have UF := up_set11 UD (Nat.le_refl _) (.int .i64 0) Z (.string es) (.int .i64 0) Z Z Z Z Z Z Z
        clear z0 z1 z2 z3 z4 z5 z6 z7 z8 z9 z10 zf zb0 UD x0 x1 x2 bx D1
        generalize World.setCell (World.setCell _ _ _) _ _ = wz at *
        obtain ⟨z0, z1, z2, z3, z4, z5, z6, z7, z8, z9, z10⟩ := bF.c11
        exact bodyPost_ret (v := .tuple #[.agg Zs, .int .i64 3]) (by simp [results, Tryd.results20, go_sem, z0, z1, z2, z3, z4, z5, z6, z7, z8, z9, z10]) rfl ⟨by rw [hse]; rfl, UF⟩
      · obtain ⟨c0, c1, c2, c3, c4, c5, c6, c7, c8, c9, c10⟩ := D1.b1.c11
        have cf := D1.b1.frozen
        have cl := D1.b1.lt
        have zb0 := D1.b0
        obtain ⟨z0, z1, z2, z3, z4, z5, z6, z7, z8, z9, z10⟩ := zb0.c11
        have zf := zb0.frozen
        have zl := zb0.lt
        have UD := D1.up
        have hNN : w.heap.size ≠ N1 := by omega
        go_wp2
        have bF := boxSet11 zb0 (.int .i64 3) (V f) (.string S) (.int .i64 0) (Z) (Z) (Z) (Z) (V x) (V y) (V z)
        have UF := up_set11 UD (Nat.le_refl _) (.int .i64 3) (V f) (.string S) (.int .i64 0) (Z) (Z) (Z) (Z) (V x) (V y) (V z)
        clear z0 z1 z2 z3 z4 z5 z6 z7 z8 z9 z10 zf zb0 UD D1 x0 x1 x2 bx
        clear c0 c1 c2 c3 c4 c5 c6 c7 c8 c9 c10 cf cl
        generalize World.setCell (World.setCell _ _ _) _ _ = wz at *
        obtain ⟨z0, z1, z2, z3, z4, z5, z6, z7, z8, z9, z10⟩ := bF.c11
        exact bodyPost_ret (v := .tuple #[.agg #[.int .i64 3, V f, .string S, .int .i64 0, Z, Z, Z, Z, V x, V y, V z], .int .i64 0]) (by simp [results, Tryd.results20, go_sem, z0, z1, z2, z3, z4, z5, z6, z7, z8, z9, z10]) rfl ⟨by rw [hse]; rfl, UF⟩
    · have hq2 : ((ax : Int) != (N : Int)) = true := by simp at hll; simp; omega
      clear hll hax2
      have zb0 := D1.b0
      obtain ⟨z0, z1, z2, z3, z4, z5, z6, z7, z8, z9, z10⟩ := zb0.c11
      have zf := zb0.frozen
      have zl := zb0.lt
      have UD := D1.up
      go_wp2
      have bF := boxSet11 zb0 (.int .i64 0) Z (.string es) (.int .i64 0) Z Z Z Z Z Z Z
      have UF := up_set11 UD (Nat.le_refl _) (.int .i64 0) Z (.string es) (.int .i64 0) Z Z Z Z Z Z Z
      clear z0 z1 z2 z3 z4 z5 z6 z7 z8 z9 z10 zf zb0 UD x0 x1 x2 bx D1
      generalize World.setCell (World.setCell _ _ _) _ _ = wz at *
      obtain ⟨z0, z1, z2, z3, z4, z5, z6, z7, z8, z9, z10⟩ := bF.c11
      exact bodyPost_ret (v := .tuple #[.agg Zs, .int .i64 3]) (by simp [results, Tryd.results20, go_sem, z0, z1, z2, z3, z4, z5, z6, z7, z8, z9, z10]) rfl ⟨by rw [hse]; cases o <;> rfl, UF⟩
end Go.Proofs.YtcllenlpoknakaaDoor
