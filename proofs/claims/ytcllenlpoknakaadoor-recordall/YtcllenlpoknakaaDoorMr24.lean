/- Merged: RcDecW. -/
import Derived.Test.YtcllenlpoknakaaDoorMr23
import Derived.Deep.RegionWith
set_option linter.unusedVariables false
set_option linter.unusedSimpArgs false
namespace Go.Proofs.YtcllenlpoknakaaDoor
open Go Go.RowKit

theorem Tryd.infoRec : (Tryd.prog.info? 32).map (·.size) = some 11 := by kernel_rfl
abbrev es : ByteArray := ⟨#[]⟩
abbrev Zs : Array Value := #[.int .i64 0, Z, .string es, .int .i64 0, Z, Z, Z, Z, Z, Z, Z]
/-- While Decode reads: the result's cells are all zero, the record under way holds cs. -/
structure DcS (w wi : World) (N0 N1 r B : Nat) (aS aF : Addr) (st : Option (List UInt8)) (cs : Array Value) : Prop where
  up : Up w wi
  rs : RdS B wi r aS aF st
  b0 : Box wi N0 Zs
  b1 : Box wi N1 cs
  h0 : w.heap.size ≤ N0
  h01 : N0 < B
  h0r : N0 ≠ r
  hr : w.heap.size ≤ r
  h1 : B ≤ N1
theorem DcS.read {w wi wj : World} {N0 N1 r B : Nat} {aS aF : Addr} {st st' : Option (List UInt8)} {cs : Array Value} (h : DcS w wi N0 N1 r B aS aF st cs) (k : RdS B wj r aS aF st') (g : But r wi wj) : DcS w wj N0 N1 r B aS aF st' cs :=
  ⟨Below.trans h.up (g.below h.hr h.up.size), k, h.b0.but g h.h0r, h.b1.but g (by have := h.rs.lt; have := h.h1; omega), h.h0, h.h01, h.h0r, h.hr, h.h1⟩
theorem DcS.set {w wi : World} {N0 N1 r B : Nat} {aS aF : Addr} {st : Option (List UInt8)} {cs : Array Value} (h : DcS w wi N0 N1 r B aS aF st cs) (i : Nat) (v : Value) : DcS w (wi.setCell ⟨N1, i, none⟩ v) N0 N1 r B aS aF st (cs.setIfInBounds i v) :=
  ⟨belowSet (by have := h.h0; have := h.h01; have := h.h1; omega) i v h.up, h.rs.below (belowSet h.h1 i v (Below.refl _ _)), h.b0.other (by have := h.h01; have := h.h1; omega) i v, h.b1.set i v, h.h0, h.h01, h.h0r, h.hr, h.h1⟩
theorem DcS.cast {w wi : World} {N0 N1 r B : Nat} {aS aF : Addr} {st : Option (List UInt8)} {cs ds : Array Value} (h : DcS w wi N0 N1 r B aS aF st cs) (e : cs = ds) : DcS w wi N0 N1 r B aS aF st ds := e ▸ h
theorem DcS.up' {w wi wj : World} {N0 N1 r B : Nat} {aS aF : Addr} {st : Option (List UInt8)} {cs : Array Value} (h : DcS w wi N0 N1 r B aS aF st cs) (u : Up wi wj) : DcS w wj N0 N1 r B aS aF st cs :=
  ⟨h.up.trans u, h.rs.below (u.mono h.rs.sz), h.b0.up u, h.b1.up u, h.h0, h.h01, h.h0r, h.hr, h.h1⟩

theorem boxSet11 {w : World} {k : Nat} {a0 a1 a2 a3 a4 a5 a6 a7 a8 a9 a10 : Value} (h : Box w k #[a0, a1, a2, a3, a4, a5, a6, a7, a8, a9, a10]) (y0 y1 y2 y3 y4 y5 y6 y7 y8 y9 y10 : Value) :
    Box (((((((((((w.setCell ⟨k, 0, none⟩ y0).setCell ⟨k, 1, none⟩ y1).setCell ⟨k, 2, none⟩ y2).setCell ⟨k, 3, none⟩ y3).setCell ⟨k, 4, none⟩ y4).setCell ⟨k, 5, none⟩ y5).setCell ⟨k, 6, none⟩ y6).setCell ⟨k, 7, none⟩ y7).setCell ⟨k, 8, none⟩ y8).setCell ⟨k, 9, none⟩ y9).setCell ⟨k, 10, none⟩ y10) k #[y0, y1, y2, y3, y4, y5, y6, y7, y8, y9, y10] := by
  have h0 : Box _ k #[y0, a1, a2, a3, a4, a5, a6, a7, a8, a9, a10] := h.set 0 y0
  have h1 : Box _ k #[y0, y1, a2, a3, a4, a5, a6, a7, a8, a9, a10] := h0.set 1 y1
  have h2 : Box _ k #[y0, y1, y2, a3, a4, a5, a6, a7, a8, a9, a10] := h1.set 2 y2
  have h3 : Box _ k #[y0, y1, y2, y3, a4, a5, a6, a7, a8, a9, a10] := h2.set 3 y3
  have h4 : Box _ k #[y0, y1, y2, y3, y4, a5, a6, a7, a8, a9, a10] := h3.set 4 y4
  have h5 : Box _ k #[y0, y1, y2, y3, y4, y5, a6, a7, a8, a9, a10] := h4.set 5 y5
  have h6 : Box _ k #[y0, y1, y2, y3, y4, y5, y6, a7, a8, a9, a10] := h5.set 6 y6
  have h7 : Box _ k #[y0, y1, y2, y3, y4, y5, y6, y7, a8, a9, a10] := h6.set 7 y7
  have h8 : Box _ k #[y0, y1, y2, y3, y4, y5, y6, y7, y8, a9, a10] := h7.set 8 y8
  have h9 : Box _ k #[y0, y1, y2, y3, y4, y5, y6, y7, y8, y9, a10] := h8.set 9 y9
  have h10 : Box _ k #[y0, y1, y2, y3, y4, y5, y6, y7, y8, y9, y10] := h9.set 10 y10
  exact h10
theorem up_set11 {w w' : World} {k : Nat} (h : Up w w') (hk : w.heap.size ≤ k) (y0 y1 y2 y3 y4 y5 y6 y7 y8 y9 y10 : Value) :
    Up w (((((((((((w'.setCell ⟨k, 0, none⟩ y0).setCell ⟨k, 1, none⟩ y1).setCell ⟨k, 2, none⟩ y2).setCell ⟨k, 3, none⟩ y3).setCell ⟨k, 4, none⟩ y4).setCell ⟨k, 5, none⟩ y5).setCell ⟨k, 6, none⟩ y6).setCell ⟨k, 7, none⟩ y7).setCell ⟨k, 8, none⟩ y8).setCell ⟨k, 9, none⟩ y9).setCell ⟨k, 10, none⟩ y10) :=
  belowSet hk 10 y10 (belowSet hk 9 y9 (belowSet hk 8 y8 (belowSet hk 7 y7 (belowSet hk 6 y6 (belowSet hk 5 y5 (belowSet hk 4 y4 (belowSet hk 3 y3 (belowSet hk 2 y2 (belowSet hk 1 y1 (belowSet hk 0 y0 h))))))))))

set_option maxRecDepth 20000 in
set_option maxHeartbeats 3200000 in
theorem Decode_short1 (base : Nat) (v : Value) (b : List UInt8) (w : World) (aS aF : Addr) (hs : Sl base w v b) (hl : Hid (b.length ≤ 140737488351232)) (hgS : Gl w 1 aS) (hgF : Gl w 2 aF) {s1 : Option (List UInt8)} (hs1n : s1 = none) (e0 : rdA 1 (some b) = (0, s1)) :
    Calls Tryd.prog 14 #[v] w fun e w' => e = .returned (.tuple #[.agg Zs, E aS]) ∧ Up w w' := by
  have hn0 : w.heap.size < w.heap.size + 1 := by omega
  go_enter Tryd.func14, Tryd.ntmps14
  have bz : Box (w.alloc (.cells Zs 32)) w.heap.size Zs := Box.new _ _ _
  have uz : Up w (w.alloc (.cells Zs 32)) := Up.alloc _ _
  have hs1 := hs.up uz
  clear hs
  have zz : (w.alloc (.cells Zs 32)).heap.size = w.heap.size + 1 := by simp
  go_wp2_with fail
  refine (NewReader_any base v b _ hs1 hl.out).mono ?_
  rintro e w1 ⟨r, rfl, hr0, hrd, u1⟩
  rw [zz] at hr0
  have U1 := uz.trans u1
  have R1 : RdS w1.heap.size w1 r aS aF (some b) := ⟨hrd.lt, Nat.le_refl _, hrd.pR, hgS.up U1, hgF.up U1, (hgS.up U1).lt, (hgF.up U1).lt⟩
  have b1 := bz.up u1
  have zb := b1.lt
  clear hrd hs1 u1 uz bz
  go_wp2_with fail
  have k0 := U8_S R1
  rw [e0] at k0
  refine k0.mono ?_
  rintro e w2 ⟨rfl, R2, g2⟩
  clear k0
  have U2 : Up w w2 := Below.trans U1 (g2.below (by omega) (by omega))
  have b2 := b1.but g2 (show w.heap.size ≠ r by omega)
  have z2 : w1.heap.size ≤ w2.heap.size := R2.sz
  have hcu : w.heap.size < w2.heap.size := by omega
  have hcr : r < w2.heap.size := by have := R2.lt; omega
  go_wp2_with fail
  have D1 : DcS w (w2.alloc (.cells #[.int .i64 0, Z, .string es, .int .i64 0, Z, Z, Z, Z, Z, Z, Z] 32)) w.heap.size w2.heap.size r w1.heap.size aS aF s1 #[.int .i64 0, Z, .string es, .int .i64 0, Z, Z, Z, Z, Z, Z, Z] :=
    ⟨U2.trans (Up.alloc _ _), R2.below ((Up.alloc _ _).mono R2.sz), b2.alloc _, Box.new _ _ _, Nat.le_refl _, by omega, by omega, by omega, z2⟩
  clear b2 R2 U2 b1 R1 U1 g2
  generalize w2.alloc _ = w3 at *
  obtain ⟨N1, hN1⟩ : ∃ N1, w2.heap.size = N1 := ⟨_, rfl⟩
  rw [hN1] at D1 hcu hcr z2 ⊢
  subst hs1n
  obtain ⟨c0, c1, c2, c3, c4, c5, c6, c7, c8, c9, c10⟩ := D1.b1.c11
  have cf := D1.b1.frozen
  have cl := D1.b1.lt
  have kE := Err_S D1.rs
  rw [if_pos rfl] at kE
  refine kE.mono ?_
  rintro e w4 ⟨rfl, rfl⟩
  clear kE
  go_wp2_with fail
  have k : Calls Tryd.prog 31 #[.pointer (some ⟨r, 0, none⟩)] _ fun e w' => e = .returned Z ∧ RdS w1.heap.size w' r aS aF none ∧ But r _ w' := U64_S D1.rs
  refine k.mono ?_
  rintro e w5 ⟨rfl, R5, g5⟩
  replace D1 := D1.read R5 g5
  clear k R5 g5
  clear c0 c1 c2 c3 c4 c5 c6 c7 c8 c9 c10 cf cl
  obtain ⟨c0, c1, c2, c3, c4, c5, c6, c7, c8, c9, c10⟩ := D1.b1.c11
  have cf := D1.b1.frozen
  have cl := D1.b1.lt
  go_wp2_with fail
  replace D1 := (D1.set 1 Z).cast (ds := #[.int .i64 0, Z, .string es, .int .i64 0, Z, Z, Z, Z, Z, Z, Z]) rfl
  generalize World.setCell w5 _ _ = w5' at *
  have k : Calls Tryd.prog 32 #[.pointer (some ⟨r, 0, none⟩)] _ fun e w' => e = .returned (.string es) ∧ RdS w1.heap.size w' r aS aF none ∧ But r _ w' := Text_S D1.rs
  refine k.mono ?_
  rintro e w6 ⟨rfl, R5, g5⟩
  replace D1 := D1.read R5 g5
  clear k R5 g5
  clear c0 c1 c2 c3 c4 c5 c6 c7 c8 c9 c10 cf cl
  obtain ⟨c0, c1, c2, c3, c4, c5, c6, c7, c8, c9, c10⟩ := D1.b1.c11
  have cf := D1.b1.frozen
  have cl := D1.b1.lt
  go_wp2_with fail
  replace D1 := (D1.set 2 (.string es)).cast (ds := #[.int .i64 0, Z, .string es, .int .i64 0, Z, Z, Z, Z, Z, Z, Z]) rfl
  generalize World.setCell w6 _ _ = w7 at *
  clear c0 c1 c2 c3 c4 c5 c6 c7 c8 c9 c10 cf cl
  obtain ⟨c0, c1, c2, c3, c4, c5, c6, c7, c8, c9, c10⟩ := D1.b1.c11
  have cf := D1.b1.frozen
  have cl := D1.b1.lt
  have k : Calls Tryd.prog 35 #[.pointer (some ⟨r, 0, none⟩)] w7 fun e w' => e = .returned (E aS) ∧ w' = w7 := End_S D1.rs
  refine k.mono ?_
  rintro e w8 ⟨rfl, rfl⟩
  clear k
  clear c0 c1 c2 c3 c4 c5 c6 c7 c8 c9 c10 cf cl
  have zb0 := D1.b0
  obtain ⟨z0, z1, z2, z3, z4, z5, z6, z7, z8, z9, z10⟩ := zb0.c11
  have zf := zb0.frozen
  have zl := zb0.lt
  have UD := D1.up
  go_wp2
  have bF := boxSet11 zb0 (.int .i64 0) Z (.string es) (.int .i64 0) Z Z Z Z Z Z Z
  have UF := up_set11 UD (Nat.le_refl _) (.int .i64 0) Z (.string es) (.int .i64 0) Z Z Z Z Z Z Z
  clear z0 z1 z2 z3 z4 z5 z6 z7 z8 z9 z10 zf zb0 UD D1
  generalize World.setCell _ _ _ = wz at *
  obtain ⟨z0, z1, z2, z3, z4, z5, z6, z7, z8, z9, z10⟩ := bF.c11
  exact bodyPost_ret (v := .tuple #[.agg Zs, E aS]) (by simp [results, Tryd.results14, go_sem, z0, z1, z2, z3, z4, z5, z6, z7, z8, z9, z10]) rfl ⟨rfl, UF⟩

set_option maxRecDepth 20000 in
set_option maxHeartbeats 3200000 in
theorem Decode_kind (base : Nat) (v : Value) (b : List UInt8) (w : World) (aS aF : Addr) (hs : Sl base w v b) (hl : Hid (b.length ≤ 140737488351232)) (hgS : Gl w 1 aS) (hgF : Gl w 2 aF) {x : Nat} {b1 : List UInt8} (e0 : rdA 1 (some b) = (x, some b1)) (hx : (x : Int) < 1 ∨ 3 < (x : Int)) :
    Calls Tryd.prog 14 #[v] w fun e w' => e = .returned (.tuple #[.agg Zs, E aF]) ∧ Up w w' := by
  have hb : (x : Int) ≤ 255 := by have := rdA_lt 1 (some b); rw [e0] at this; simp only at this; omega
  have kK := isKind_no (x : Int) hx
  obtain ⟨s1, hs1n⟩ : ∃ s1, s1 = some b1 := ⟨_, rfl⟩
  rw [← hs1n] at e0
  clear hx
  have hn0 : w.heap.size < w.heap.size + 1 := by omega
  go_enter Tryd.func14, Tryd.ntmps14
  have bz : Box (w.alloc (.cells Zs 32)) w.heap.size Zs := Box.new _ _ _
  have uz : Up w (w.alloc (.cells Zs 32)) := Up.alloc _ _
  have hs1 := hs.up uz
  clear hs
  have zz : (w.alloc (.cells Zs 32)).heap.size = w.heap.size + 1 := by simp
  go_wp2_with fail
  refine (NewReader_any base v b _ hs1 hl.out).mono ?_
  rintro e w1 ⟨r, rfl, hr0, hrd, u1⟩
  rw [zz] at hr0
  have U1 := uz.trans u1
  have R1 : RdS w1.heap.size w1 r aS aF (some b) := ⟨hrd.lt, Nat.le_refl _, hrd.pR, hgS.up U1, hgF.up U1, (hgS.up U1).lt, (hgF.up U1).lt⟩
  have b1 := bz.up u1
  have zb := b1.lt
  clear hrd hs1 u1 uz bz
  go_wp2_with fail
  have k0 := U8_S R1
  rw [e0] at k0
  refine k0.mono ?_
  rintro e w2 ⟨rfl, R2, g2⟩
  clear k0
  have U2 : Up w w2 := Below.trans U1 (g2.below (by omega) (by omega))
  have b2 := b1.but g2 (show w.heap.size ≠ r by omega)
  have z2 : w1.heap.size ≤ w2.heap.size := R2.sz
  have hcu : w.heap.size < w2.heap.size := by omega
  have hcr : r < w2.heap.size := by have := R2.lt; omega
  go_wp2_with fail
  have D1 : DcS w (w2.alloc (.cells #[.int .i64 (x : Int), Z, .string es, .int .i64 0, Z, Z, Z, Z, Z, Z, Z] 32)) w.heap.size w2.heap.size r w1.heap.size aS aF s1 #[.int .i64 (x : Int), Z, .string es, .int .i64 0, Z, Z, Z, Z, Z, Z, Z] :=
    ⟨U2.trans (Up.alloc _ _), R2.below ((Up.alloc _ _).mono R2.sz), b2.alloc _, Box.new _ _ _, Nat.le_refl _, by omega, by omega, by omega, z2⟩
  clear b2 R2 U2 b1 R1 U1 g2
  generalize w2.alloc _ = w3 at *
  obtain ⟨N1, hN1⟩ : ∃ N1, w2.heap.size = N1 := ⟨_, rfl⟩
  rw [hN1] at D1 hcu hcr z2 ⊢
  subst hs1n
  obtain ⟨c0, c1, c2, c3, c4, c5, c6, c7, c8, c9, c10⟩ := D1.b1.c11
  have cf := D1.b1.frozen
  have cl := D1.b1.lt
  have kE := Err_S D1.rs
  rw [if_neg (by simp)] at kE
  refine kE.mono ?_
  rintro e w4 ⟨rfl, rfl⟩
  clear kE
  go_wp2_with fail
  refine (kK _).mono ?_
  rintro e w5 ⟨rfl, rfl⟩
  clear c0 c1 c2 c3 c4 c5 c6 c7 c8 c9 c10 cf cl
  have zb0 := D1.b0
  have cF := D1.rs.gf.cell
  obtain ⟨z0, z1, z2, z3, z4, z5, z6, z7, z8, z9, z10⟩ := zb0.c11
  have zf := zb0.frozen
  have zl := zb0.lt
  have UD := D1.up
  have hgl := D1.rs.gf.lt
  have hFN : (2 : Nat) ≠ w.heap.size := by have := hgF.lt; omega
  clear D1
  go_wp2_with fail
  go_region_with (fail)
  all_goals
    go_wp2
    simp only [Act.put, List.getElem_toArray, List.getElem_cons_succ, List.getElem_cons_zero]
    have bF := (boxSet11 zb0 (.int .i64 0) Z (.string es) (.int .i64 0) Z Z Z Z Z Z Z).drew
    have UF := (up_set11 UD (Nat.le_refl _) (.int .i64 0) Z (.string es) (.int .i64 0) Z Z Z Z Z Z Z).trans (Up.drew _)
    clear z0 z1 z2 z3 z4 z5 z6 z7 z8 z9 z10 zf zb0 UD
    generalize World.drew _ = wz at *
    obtain ⟨z0, z1, z2, z3, z4, z5, z6, z7, z8, z9, z10⟩ := bF.c11
    exact bodyPost_ret (v := .tuple #[.agg Zs, E aF]) (by simp [results, Tryd.results14, go_sem, z0, z1, z2, z3, z4, z5, z6, z7, z8, z9, z10]) rfl ⟨rfl, UF⟩

/-- What Decode answers, by what is left behind the last field and whether the record is one. -/
def decT (aS aF : Addr) : Option (List UInt8) → Bool → Value → Value
  | none, _, _ => .tuple #[.agg Zs, E aS]
  | some (_ :: _), _, _ => .tuple #[.agg Zs, E aF]
  | some [], false, _ => .tuple #[.agg Zs, E aF]
  | some [], true, R => .tuple #[R, .nilIface]

set_option maxRecDepth 20000 in
set_option maxHeartbeats 3200000 in
theorem Decode_del (base : Nat) (v : Value) (b : List UInt8) (w : World) (aS aF : Addr) (hs : Sl base w v b) (hl : Hid (b.length ≤ 140737488351232)) (hgS : Gl w 1 aS) (hgF : Gl w 2 aF) {b1 key : List UInt8} {f : Nat} {s2 s3 : Option (List UInt8)} (o : Bool) (e0 : rdA 1 (some b) = (2, some b1)) (e1 : rdA 8 (some b1) = (f, s2)) (e2 : rdTA s2 = (key, s3)) (S : ByteArray) (hS : Hid ((⟨key.toArray⟩ : ByteArray) = S))
    (hV : ∀ w, Calls Tryd.prog 13 #[.agg #[.int .i64 2, V f, .string S, .int .i64 0, Z, Z, Z, Z, Z, Z, Z]] w fun e w' => e = .returned (.bool o) ∧ Up w w') :
    Calls Tryd.prog 14 #[v] w fun e w' => e = .returned (decT aS aF s3 o (.agg #[.int .i64 2, V f, .string S, .int .i64 0, Z, Z, Z, Z, Z, Z, Z])) ∧ Up w w' := by
  have kK := isKind_yes 2 (by omega) (by omega)
  obtain ⟨s1, hs1n⟩ : ∃ s1, s1 = some b1 := ⟨_, rfl⟩
  rw [← hs1n] at e0
  have hS1 : Hid (s1 = some b1) := hs1n
  have E1 : Hid (rdA 8 (some b1) = (f, s2)) := e1
  have E2 : Hid (rdTA s2 = (key, s3)) := e2
  clear e1 e2 hs1n
  have hn0 : w.heap.size < w.heap.size + 1 := by omega
  go_enter Tryd.func14, Tryd.ntmps14
  have bz : Box (w.alloc (.cells Zs 32)) w.heap.size Zs := Box.new _ _ _
  have uz : Up w (w.alloc (.cells Zs 32)) := Up.alloc _ _
  have hs1 := hs.up uz
  clear hs
  have zz : (w.alloc (.cells Zs 32)).heap.size = w.heap.size + 1 := by simp
  go_wp2_with fail
  refine (NewReader_any base v b _ hs1 hl.out).mono ?_
  rintro e w1 ⟨r, rfl, hr0, hrd, u1⟩
  rw [zz] at hr0
  have U1 := uz.trans u1
  have R1 : RdS w1.heap.size w1 r aS aF (some b) := ⟨hrd.lt, Nat.le_refl _, hrd.pR, hgS.up U1, hgF.up U1, (hgS.up U1).lt, (hgF.up U1).lt⟩
  have b1 := bz.up u1
  have zb := b1.lt
  clear hrd hs1 u1 uz bz
  go_wp2_with fail
  have k0 := U8_S R1
  rw [e0] at k0
  refine k0.mono ?_
  rintro e w2 ⟨rfl, R2, g2⟩
  clear k0
  have U2 : Up w w2 := Below.trans U1 (g2.below (by omega) (by omega))
  have b2 := b1.but g2 (show w.heap.size ≠ r by omega)
  have z2 : w1.heap.size ≤ w2.heap.size := R2.sz
  have hcu : w.heap.size < w2.heap.size := by omega
  have hcr : r < w2.heap.size := by have := R2.lt; omega
  go_wp2_with fail
  have D1 : DcS w (w2.alloc (.cells #[.int .i64 2, Z, .string es, .int .i64 0, Z, Z, Z, Z, Z, Z, Z] 32)) w.heap.size w2.heap.size r w1.heap.size aS aF s1 #[.int .i64 2, Z, .string es, .int .i64 0, Z, Z, Z, Z, Z, Z, Z] :=
    ⟨U2.trans (Up.alloc _ _), R2.below ((Up.alloc _ _).mono R2.sz), b2.alloc _, Box.new _ _ _, Nat.le_refl _, by omega, by omega, by omega, z2⟩
  clear b2 R2 U2 b1 R1 U1 g2
  generalize w2.alloc _ = w3 at *
  obtain ⟨N1, hN1⟩ : ∃ N1, w2.heap.size = N1 := ⟨_, rfl⟩
  rw [hN1] at D1 hcu hcr z2 ⊢
  obtain rfl := hS1.out
  obtain ⟨c0, c1, c2, c3, c4, c5, c6, c7, c8, c9, c10⟩ := D1.b1.c11
  have cf := D1.b1.frozen
  have cl := D1.b1.lt
  have kE := Err_S D1.rs
  rw [if_neg (by simp)] at kE
  refine kE.mono ?_
  rintro e w4 ⟨rfl, rfl⟩
  clear kE
  go_wp2_with fail
  refine (kK _).mono ?_
  rintro e w5 ⟨rfl, rfl⟩
  clear kK
  go_wp2_with fail
  have k : ∀ u, RdS w1.heap.size u r aS aF (some b1) → Calls Tryd.prog 31 #[.pointer (some ⟨r, 0, none⟩)] u fun e w' => e = .returned (V f) ∧ RdS w1.heap.size w' r aS aF s2 ∧ But r u w' := fun u hu => by
    have := U64_S hu
    rw [E1.out] at this
    exact this
  refine (k _ D1.rs).mono ?_
  rintro e w6 ⟨rfl, R5, g5⟩
  replace D1 := D1.read R5 g5
  clear k R5 g5
  clear c0 c1 c2 c3 c4 c5 c6 c7 c8 c9 c10 cf cl
  obtain ⟨c0, c1, c2, c3, c4, c5, c6, c7, c8, c9, c10⟩ := D1.b1.c11
  have cf := D1.b1.frozen
  have cl := D1.b1.lt
  go_wp2_with fail
  clear c0 c1 c2 c3 c4 c5 c6 c7 c8 c9 c10 cf cl
  replace D1 := (D1.set 1 (V f)).cast (ds := #[.int .i64 2, V f, .string es, .int .i64 0, Z, Z, Z, Z, Z, Z, Z]) rfl
  generalize World.setCell w6 _ _ = w7 at *
  obtain ⟨c0, c1, c2, c3, c4, c5, c6, c7, c8, c9, c10⟩ := D1.b1.c11
  have cf := D1.b1.frozen
  have cl := D1.b1.lt
  have k : ∀ u, RdS w1.heap.size u r aS aF s2 → Calls Tryd.prog 32 #[.pointer (some ⟨r, 0, none⟩)] u fun e w' => e = .returned (.string S) ∧ RdS w1.heap.size w' r aS aF s3 ∧ But r u w' := fun u hu => by
    have := Text_S hu
    rw [E2.out] at this
    simp only [hS.out] at this
    exact this
  refine (k _ D1.rs).mono ?_
  rintro e w8 ⟨rfl, R5, g5⟩
  replace D1 := D1.read R5 g5
  clear k R5 g5
  clear c0 c1 c2 c3 c4 c5 c6 c7 c8 c9 c10 cf cl
  obtain ⟨c0, c1, c2, c3, c4, c5, c6, c7, c8, c9, c10⟩ := D1.b1.c11
  have cf := D1.b1.frozen
  have cl := D1.b1.lt
  go_wp2_with fail
  clear c0 c1 c2 c3 c4 c5 c6 c7 c8 c9 c10 cf cl
  replace D1 := (D1.set 2 (.string S)).cast (ds := #[.int .i64 2, V f, .string S, .int .i64 0, Z, Z, Z, Z, Z, Z, Z]) rfl
  generalize World.setCell w8 _ _ = w9 at *
  obtain ⟨c0, c1, c2, c3, c4, c5, c6, c7, c8, c9, c10⟩ := D1.b1.c11
  have cf := D1.b1.frozen
  have cl := D1.b1.lt
  rcases hse : s3 with _ | l
  · rw [hse] at D1
    have k : Calls Tryd.prog 35 #[.pointer (some ⟨r, 0, none⟩)] w9 fun e w' => e = .returned (E aS) ∧ w' = w9 := End_S D1.rs
    refine k.mono ?_
    rintro e wA ⟨rfl, rfl⟩
    clear k
    clear c0 c1 c2 c3 c4 c5 c6 c7 c8 c9 c10 cf cl
    have zb0 := D1.b0
    obtain ⟨z0, z1, z2, z3, z4, z5, z6, z7, z8, z9, z10⟩ := zb0.c11
    have zf := zb0.frozen
    have zl := zb0.lt
    have UD := D1.up
    go_wp2
    have bF := boxSet11 zb0 (.int .i64 0) Z (.string es) (.int .i64 0) Z Z Z Z Z Z Z
    have UF := up_set11 UD (Nat.le_refl _) (.int .i64 0) Z (.string es) (.int .i64 0) Z Z Z Z Z Z Z
    clear z0 z1 z2 z3 z4 z5 z6 z7 z8 z9 z10 zf zb0 UD D1
    generalize World.setCell _ _ _ = wz at *
    obtain ⟨z0, z1, z2, z3, z4, z5, z6, z7, z8, z9, z10⟩ := bF.c11
    exact bodyPost_ret (v := .tuple #[.agg Zs, E aS]) (by simp [results, Tryd.results14, go_sem, z0, z1, z2, z3, z4, z5, z6, z7, z8, z9, z10]) rfl ⟨by rw [hse]; rfl, UF⟩
  · rw [hse] at D1
    rcases l with _ | ⟨cc, ll⟩
    · have k : Calls Tryd.prog 35 #[.pointer (some ⟨r, 0, none⟩)] w9 fun e w' => e = .returned .nilIface ∧ w' = w9 := End_S D1.rs
      refine k.mono ?_
      rintro e wA ⟨rfl, rfl⟩
      clear k
      go_wp2_with fail
      refine (hV _).mono ?_
      rintro e wB ⟨rfl, uB⟩
      replace D1 := D1.up' uB
      clear uB hV
      clear c0 c1 c2 c3 c4 c5 c6 c7 c8 c9 c10 cf cl
      cases o
      · have zb0 := D1.b0
        have cF := D1.rs.gf.cell
        obtain ⟨z0, z1, z2, z3, z4, z5, z6, z7, z8, z9, z10⟩ := zb0.c11
        have zf := zb0.frozen
        have zl := zb0.lt
        have UD := D1.up
        have hgl := D1.rs.gf.lt
        have hFN : (2 : Nat) ≠ w.heap.size := by have := hgF.lt; omega
        clear D1
        go_wp2_with fail
        go_region_with (fail)
        all_goals
          go_wp2
          simp only [Act.put, List.getElem_toArray, List.getElem_cons_succ, List.getElem_cons_zero]
          have bF := (boxSet11 zb0 (.int .i64 0) Z (.string es) (.int .i64 0) Z Z Z Z Z Z Z).drew
          have UF := (up_set11 UD (Nat.le_refl _) (.int .i64 0) Z (.string es) (.int .i64 0) Z Z Z Z Z Z Z).trans (Up.drew _)
          clear z0 z1 z2 z3 z4 z5 z6 z7 z8 z9 z10 zf zb0 UD
          generalize World.drew _ = wz at *
          obtain ⟨z0, z1, z2, z3, z4, z5, z6, z7, z8, z9, z10⟩ := bF.c11
          exact bodyPost_ret (v := .tuple #[.agg Zs, E aF]) (by simp [results, Tryd.results14, go_sem, z0, z1, z2, z3, z4, z5, z6, z7, z8, z9, z10]) rfl ⟨by rw [hse]; rfl, UF⟩
      · obtain ⟨c0, c1, c2, c3, c4, c5, c6, c7, c8, c9, c10⟩ := D1.b1.c11
        have cf := D1.b1.frozen
        have cl := D1.b1.lt
        have zb0 := D1.b0
        obtain ⟨z0, z1, z2, z3, z4, z5, z6, z7, z8, z9, z10⟩ := zb0.c11
        have zf := zb0.frozen
        have zl := zb0.lt
        have UD := D1.up
        have hNN : w.heap.size ≠ N1 := by omega
        go_wp2
        have bF := boxSet11 zb0 (.int .i64 2) (V f) (.string S) (.int .i64 0) (Z) (Z) (Z) (Z) (Z) (Z) (Z)
        have UF := up_set11 UD (Nat.le_refl _) (.int .i64 2) (V f) (.string S) (.int .i64 0) (Z) (Z) (Z) (Z) (Z) (Z) (Z)
        clear z0 z1 z2 z3 z4 z5 z6 z7 z8 z9 z10 zf zb0 UD D1
        clear c0 c1 c2 c3 c4 c5 c6 c7 c8 c9 c10 cf cl
        generalize World.setCell (World.setCell _ _ _) _ _ = wz at *
        obtain ⟨z0, z1, z2, z3, z4, z5, z6, z7, z8, z9, z10⟩ := bF.c11
        exact bodyPost_ret (v := .tuple #[.agg #[.int .i64 2, V f, .string S, .int .i64 0, Z, Z, Z, Z, Z, Z, Z], .nilIface]) (by simp [results, Tryd.results14, go_sem, z0, z1, z2, z3, z4, z5, z6, z7, z8, z9, z10]) rfl ⟨by rw [hse]; rfl, UF⟩
    · have k : Calls Tryd.prog 35 #[.pointer (some ⟨r, 0, none⟩)] w9 fun e w' => e = .returned (E aF) ∧ w' = w9 := End_S D1.rs
      refine k.mono ?_
      rintro e wA ⟨rfl, rfl⟩
      clear k
      clear c0 c1 c2 c3 c4 c5 c6 c7 c8 c9 c10 cf cl
      have zb0 := D1.b0
      obtain ⟨z0, z1, z2, z3, z4, z5, z6, z7, z8, z9, z10⟩ := zb0.c11
      have zf := zb0.frozen
      have zl := zb0.lt
      have UD := D1.up
      go_wp2
      have bF := boxSet11 zb0 (.int .i64 0) Z (.string es) (.int .i64 0) Z Z Z Z Z Z Z
      have UF := up_set11 UD (Nat.le_refl _) (.int .i64 0) Z (.string es) (.int .i64 0) Z Z Z Z Z Z Z
      clear z0 z1 z2 z3 z4 z5 z6 z7 z8 z9 z10 zf zb0 UD D1
      generalize World.setCell _ _ _ = wz at *
      obtain ⟨z0, z1, z2, z3, z4, z5, z6, z7, z8, z9, z10⟩ := bF.c11
      exact bodyPost_ret (v := .tuple #[.agg Zs, E aF]) (by simp [results, Tryd.results14, go_sem, z0, z1, z2, z3, z4, z5, z6, z7, z8, z9, z10]) rfl ⟨by rw [hse]; rfl, UF⟩

set_option maxRecDepth 20000 in
set_option maxHeartbeats 3200000 in
theorem Decode_flow (base : Nat) (v : Value) (b : List UInt8) (w : World) (aS aF : Addr) (hs : Sl base w v b) (hl : Hid (b.length ≤ 140737488351232)) (hgS : Gl w 1 aS) (hgF : Gl w 2 aF) {b1 key : List UInt8} {f : Nat} {s2 s3 : Option (List UInt8)} {s4 s5 s6 : Option (List UInt8)} {x y z : Nat} (o : Bool) (e0 : rdA 1 (some b) = (1, some b1)) (e1 : rdA 8 (some b1) = (f, s2)) (e2 : rdTA s2 = (key, s3)) (e3 : rdA 1 s3 = (x, s4)) (e4 : rdA 8 s4 = (y, s5)) (e5 : rdA 8 s5 = (z, s6)) (hx : ((x : Int) == 2) = false) (S : ByteArray) (hS : Hid ((⟨key.toArray⟩ : ByteArray) = S))
    (hV : ∀ w, Calls Tryd.prog 13 #[.agg #[.int .i64 1, V f, .string S, .int .i64 (x : Int), V y, V z, Z, Z, Z, Z, Z]] w fun e w' => e = .returned (.bool o) ∧ Up w w') :
    Calls Tryd.prog 14 #[v] w fun e w' => e = .returned (decT aS aF s6 o (.agg #[.int .i64 1, V f, .string S, .int .i64 (x : Int), V y, V z, Z, Z, Z, Z, Z])) ∧ Up w w' := by
  have kK := isKind_yes 1 (by omega) (by omega)
  obtain ⟨s1, hs1n⟩ : ∃ s1, s1 = some b1 := ⟨_, rfl⟩
  rw [← hs1n] at e0
  have hS1 : Hid (s1 = some b1) := hs1n
  have E1 : Hid (rdA 8 (some b1) = (f, s2)) := e1
  have E2 : Hid (rdTA s2 = (key, s3)) := e2
  clear e1 e2 hs1n
  have E3 : Hid (rdA 1 s3 = (x, s4)) := e3
  have E4 : Hid (rdA 8 s4 = (y, s5)) := e4
  have E5 : Hid (rdA 8 s5 = (z, s6)) := e5
  clear e3 e4 e5
  have HX : Hid (((x : Int) == 2) = false) := hx
  clear hx
  have hn0 : w.heap.size < w.heap.size + 1 := by omega
  go_enter Tryd.func14, Tryd.ntmps14
  have bz : Box (w.alloc (.cells Zs 32)) w.heap.size Zs := Box.new _ _ _
  have uz : Up w (w.alloc (.cells Zs 32)) := Up.alloc _ _
  have hs1 := hs.up uz
  clear hs
  have zz : (w.alloc (.cells Zs 32)).heap.size = w.heap.size + 1 := by simp
  go_wp2_with fail
  refine (NewReader_any base v b _ hs1 hl.out).mono ?_
  rintro e w1 ⟨r, rfl, hr0, hrd, u1⟩
  rw [zz] at hr0
  have U1 := uz.trans u1
  have R1 : RdS w1.heap.size w1 r aS aF (some b) := ⟨hrd.lt, Nat.le_refl _, hrd.pR, hgS.up U1, hgF.up U1, (hgS.up U1).lt, (hgF.up U1).lt⟩
  have b1 := bz.up u1
  have zb := b1.lt
  clear hrd hs1 u1 uz bz
  go_wp2_with fail
  have k0 := U8_S R1
  rw [e0] at k0
  refine k0.mono ?_
  rintro e w2 ⟨rfl, R2, g2⟩
  clear k0
  have U2 : Up w w2 := Below.trans U1 (g2.below (by omega) (by omega))
  have b2 := b1.but g2 (show w.heap.size ≠ r by omega)
  have z2 : w1.heap.size ≤ w2.heap.size := R2.sz
  have hcu : w.heap.size < w2.heap.size := by omega
  have hcr : r < w2.heap.size := by have := R2.lt; omega
  go_wp2_with fail
  have D1 : DcS w (w2.alloc (.cells #[.int .i64 1, Z, .string es, .int .i64 0, Z, Z, Z, Z, Z, Z, Z] 32)) w.heap.size w2.heap.size r w1.heap.size aS aF s1 #[.int .i64 1, Z, .string es, .int .i64 0, Z, Z, Z, Z, Z, Z, Z] :=
    ⟨U2.trans (Up.alloc _ _), R2.below ((Up.alloc _ _).mono R2.sz), b2.alloc _, Box.new _ _ _, Nat.le_refl _, by omega, by omega, by omega, z2⟩
  clear b2 R2 U2 b1 R1 U1 g2
  generalize w2.alloc _ = w3 at *
  obtain ⟨N1, hN1⟩ : ∃ N1, w2.heap.size = N1 := ⟨_, rfl⟩
  rw [hN1] at D1 hcu hcr z2 ⊢
  obtain rfl := hS1.out
  obtain ⟨c0, c1, c2, c3, c4, c5, c6, c7, c8, c9, c10⟩ := D1.b1.c11
  have cf := D1.b1.frozen
  have cl := D1.b1.lt
  have kE := Err_S D1.rs
  rw [if_neg (by simp)] at kE
  refine kE.mono ?_
  rintro e w4 ⟨rfl, rfl⟩
  clear kE
  go_wp2_with fail
  refine (kK _).mono ?_
  rintro e w5 ⟨rfl, rfl⟩
  clear kK
  go_wp2_with fail
  have k : ∀ u, RdS w1.heap.size u r aS aF (some b1) → Calls Tryd.prog 31 #[.pointer (some ⟨r, 0, none⟩)] u fun e w' => e = .returned (V f) ∧ RdS w1.heap.size w' r aS aF s2 ∧ But r u w' := fun u hu => by
    have := U64_S hu
    rw [E1.out] at this
    exact this
  refine (k _ D1.rs).mono ?_
  rintro e w6 ⟨rfl, R5, g5⟩
  replace D1 := D1.read R5 g5
  clear k R5 g5
  clear c0 c1 c2 c3 c4 c5 c6 c7 c8 c9 c10 cf cl
  obtain ⟨c0, c1, c2, c3, c4, c5, c6, c7, c8, c9, c10⟩ := D1.b1.c11
  have cf := D1.b1.frozen
  have cl := D1.b1.lt
  go_wp2_with fail
  clear c0 c1 c2 c3 c4 c5 c6 c7 c8 c9 c10 cf cl
  replace D1 := (D1.set 1 (V f)).cast (ds := #[.int .i64 1, V f, .string es, .int .i64 0, Z, Z, Z, Z, Z, Z, Z]) rfl
  generalize World.setCell w6 _ _ = w7 at *
  obtain ⟨c0, c1, c2, c3, c4, c5, c6, c7, c8, c9, c10⟩ := D1.b1.c11
  have cf := D1.b1.frozen
  have cl := D1.b1.lt
  have k : ∀ u, RdS w1.heap.size u r aS aF s2 → Calls Tryd.prog 32 #[.pointer (some ⟨r, 0, none⟩)] u fun e w' => e = .returned (.string S) ∧ RdS w1.heap.size w' r aS aF s3 ∧ But r u w' := fun u hu => by
    have := Text_S hu
    rw [E2.out] at this
    simp only [hS.out] at this
    exact this
  refine (k _ D1.rs).mono ?_
  rintro e w8 ⟨rfl, R5, g5⟩
  replace D1 := D1.read R5 g5
  clear k R5 g5
  clear c0 c1 c2 c3 c4 c5 c6 c7 c8 c9 c10 cf cl
  obtain ⟨c0, c1, c2, c3, c4, c5, c6, c7, c8, c9, c10⟩ := D1.b1.c11
  have cf := D1.b1.frozen
  have cl := D1.b1.lt
  go_wp2_with fail
  clear c0 c1 c2 c3 c4 c5 c6 c7 c8 c9 c10 cf cl
  replace D1 := (D1.set 2 (.string S)).cast (ds := #[.int .i64 1, V f, .string S, .int .i64 0, Z, Z, Z, Z, Z, Z, Z]) rfl
  generalize World.setCell w8 _ _ = w9 at *
  obtain ⟨c0, c1, c2, c3, c4, c5, c6, c7, c8, c9, c10⟩ := D1.b1.c11
  have cf := D1.b1.frozen
  have cl := D1.b1.lt
  have k : ∀ u, RdS w1.heap.size u r aS aF s3 → Calls Tryd.prog 33 #[.pointer (some ⟨r, 0, none⟩)] u fun e w' => e = .returned (.agg #[.int .i64 (x : Int), V y, V z, Z, Z]) ∧ RdS w1.heap.size w' r aS aF s6 ∧ But r u w' := fun u hu => takePolicy_1 hu E3.out E4.out E5.out HX.out
  refine (k _ D1.rs).mono ?_
  rintro e w10 ⟨rfl, R5, g5⟩
  replace D1 := D1.read R5 g5
  clear k R5 g5
  clear c0 c1 c2 c3 c4 c5 c6 c7 c8 c9 c10 cf cl
  obtain ⟨c0, c1, c2, c3, c4, c5, c6, c7, c8, c9, c10⟩ := D1.b1.c11
  have cf := D1.b1.frozen
  have cl := D1.b1.lt
  go_wp2_with fail
  clear c0 c1 c2 c3 c4 c5 c6 c7 c8 c9 c10 cf cl
  replace D1 := (((((D1.set 3 (.int .i64 (x : Int))).set 4 (V y)).set 5 (V z)).set 6 Z).set 7 Z).cast (ds := #[.int .i64 1, V f, .string S, .int .i64 (x : Int), V y, V z, Z, Z, Z, Z, Z]) rfl
  generalize World.setCell (World.setCell _ _ _) _ _ = w11 at *
  obtain ⟨c0, c1, c2, c3, c4, c5, c6, c7, c8, c9, c10⟩ := D1.b1.c11
  have cf := D1.b1.frozen
  have cl := D1.b1.lt
  rcases hse : s6 with _ | l
  · rw [hse] at D1
    have k : Calls Tryd.prog 35 #[.pointer (some ⟨r, 0, none⟩)] w11 fun e w' => e = .returned (E aS) ∧ w' = w11 := End_S D1.rs
    refine k.mono ?_
    rintro e wA ⟨rfl, rfl⟩
    clear k
    clear c0 c1 c2 c3 c4 c5 c6 c7 c8 c9 c10 cf cl
    have zb0 := D1.b0
    obtain ⟨z0, z1, z2, z3, z4, z5, z6, z7, z8, z9, z10⟩ := zb0.c11
    have zf := zb0.frozen
    have zl := zb0.lt
    have UD := D1.up
    go_wp2
    have bF := boxSet11 zb0 (.int .i64 0) Z (.string es) (.int .i64 0) Z Z Z Z Z Z Z
    have UF := up_set11 UD (Nat.le_refl _) (.int .i64 0) Z (.string es) (.int .i64 0) Z Z Z Z Z Z Z
    clear z0 z1 z2 z3 z4 z5 z6 z7 z8 z9 z10 zf zb0 UD D1
    generalize World.setCell _ _ _ = wz at *
    obtain ⟨z0, z1, z2, z3, z4, z5, z6, z7, z8, z9, z10⟩ := bF.c11
    exact bodyPost_ret (v := .tuple #[.agg Zs, E aS]) (by simp [results, Tryd.results14, go_sem, z0, z1, z2, z3, z4, z5, z6, z7, z8, z9, z10]) rfl ⟨by rw [hse]; rfl, UF⟩
  · rw [hse] at D1
    rcases l with _ | ⟨cc, ll⟩
    · have k : Calls Tryd.prog 35 #[.pointer (some ⟨r, 0, none⟩)] w11 fun e w' => e = .returned .nilIface ∧ w' = w11 := End_S D1.rs
      refine k.mono ?_
      rintro e wA ⟨rfl, rfl⟩
      clear k
      go_wp2_with fail
      refine (hV _).mono ?_
      rintro e wB ⟨rfl, uB⟩
      replace D1 := D1.up' uB
      clear uB hV
      clear c0 c1 c2 c3 c4 c5 c6 c7 c8 c9 c10 cf cl
      cases o
      · have zb0 := D1.b0
        have cF := D1.rs.gf.cell
        obtain ⟨z0, z1, z2, z3, z4, z5, z6, z7, z8, z9, z10⟩ := zb0.c11
        have zf := zb0.frozen
        have zl := zb0.lt
        have UD := D1.up
        have hgl := D1.rs.gf.lt
        have hFN : (2 : Nat) ≠ w.heap.size := by have := hgF.lt; omega
        clear D1
        go_wp2_with fail
        go_region_with (fail)
        all_goals
          go_wp2
          simp only [Act.put, List.getElem_toArray, List.getElem_cons_succ, List.getElem_cons_zero]
          have bF := (boxSet11 zb0 (.int .i64 0) Z (.string es) (.int .i64 0) Z Z Z Z Z Z Z).drew
          have UF := (up_set11 UD (Nat.le_refl _) (.int .i64 0) Z (.string es) (.int .i64 0) Z Z Z Z Z Z Z).trans (Up.drew _)
          clear z0 z1 z2 z3 z4 z5 z6 z7 z8 z9 z10 zf zb0 UD
          generalize World.drew _ = wz at *
          obtain ⟨z0, z1, z2, z3, z4, z5, z6, z7, z8, z9, z10⟩ := bF.c11
          exact bodyPost_ret (v := .tuple #[.agg Zs, E aF]) (by simp [results, Tryd.results14, go_sem, z0, z1, z2, z3, z4, z5, z6, z7, z8, z9, z10]) rfl ⟨by rw [hse]; rfl, UF⟩
      · obtain ⟨c0, c1, c2, c3, c4, c5, c6, c7, c8, c9, c10⟩ := D1.b1.c11
        have cf := D1.b1.frozen
        have cl := D1.b1.lt
        have zb0 := D1.b0
        obtain ⟨z0, z1, z2, z3, z4, z5, z6, z7, z8, z9, z10⟩ := zb0.c11
        have zf := zb0.frozen
        have zl := zb0.lt
        have UD := D1.up
        have hNN : w.heap.size ≠ N1 := by omega
        go_wp2
        have bF := boxSet11 zb0 (.int .i64 1) (V f) (.string S) (.int .i64 (x : Int)) (V y) (V z) (Z) (Z) (Z) (Z) (Z)
        have UF := up_set11 UD (Nat.le_refl _) (.int .i64 1) (V f) (.string S) (.int .i64 (x : Int)) (V y) (V z) (Z) (Z) (Z) (Z) (Z)
        clear z0 z1 z2 z3 z4 z5 z6 z7 z8 z9 z10 zf zb0 UD D1
        clear c0 c1 c2 c3 c4 c5 c6 c7 c8 c9 c10 cf cl
        generalize World.setCell (World.setCell _ _ _) _ _ = wz at *
        obtain ⟨z0, z1, z2, z3, z4, z5, z6, z7, z8, z9, z10⟩ := bF.c11
        exact bodyPost_ret (v := .tuple #[.agg #[.int .i64 1, V f, .string S, .int .i64 (x : Int), V y, V z, Z, Z, Z, Z, Z], .nilIface]) (by simp [results, Tryd.results14, go_sem, z0, z1, z2, z3, z4, z5, z6, z7, z8, z9, z10]) rfl ⟨by rw [hse]; rfl, UF⟩
    · have k : Calls Tryd.prog 35 #[.pointer (some ⟨r, 0, none⟩)] w11 fun e w' => e = .returned (E aF) ∧ w' = w11 := End_S D1.rs
      refine k.mono ?_
      rintro e wA ⟨rfl, rfl⟩
      clear k
      clear c0 c1 c2 c3 c4 c5 c6 c7 c8 c9 c10 cf cl
      have zb0 := D1.b0
      obtain ⟨z0, z1, z2, z3, z4, z5, z6, z7, z8, z9, z10⟩ := zb0.c11
      have zf := zb0.frozen
      have zl := zb0.lt
      have UD := D1.up
      go_wp2
      have bF := boxSet11 zb0 (.int .i64 0) Z (.string es) (.int .i64 0) Z Z Z Z Z Z Z
      have UF := up_set11 UD (Nat.le_refl _) (.int .i64 0) Z (.string es) (.int .i64 0) Z Z Z Z Z Z Z
      clear z0 z1 z2 z3 z4 z5 z6 z7 z8 z9 z10 zf zb0 UD D1
      generalize World.setCell _ _ _ = wz at *
      obtain ⟨z0, z1, z2, z3, z4, z5, z6, z7, z8, z9, z10⟩ := bF.c11
      exact bodyPost_ret (v := .tuple #[.agg Zs, E aF]) (by simp [results, Tryd.results14, go_sem, z0, z1, z2, z3, z4, z5, z6, z7, z8, z9, z10]) rfl ⟨by rw [hse]; rfl, UF⟩

set_option maxRecDepth 20000 in
set_option maxHeartbeats 3200000 in
theorem Decode_grid (base : Nat) (v : Value) (b : List UInt8) (w : World) (aS aF : Addr) (hs : Sl base w v b) (hl : Hid (b.length ≤ 140737488351232)) (hgS : Gl w 1 aS) (hgF : Gl w 2 aF) {b1 key : List UInt8} {f : Nat} {s2 s3 : Option (List UInt8)} {s4 s5 s6 : Option (List UInt8)} {x y z : Nat} (o : Bool) (e0 : rdA 1 (some b) = (1, some b1)) (e1 : rdA 8 (some b1) = (f, s2)) (e2 : rdTA s2 = (key, s3)) (e3 : rdA 1 s3 = (x, s4)) (e4 : rdA 8 s4 = (y, s5)) (e5 : rdA 8 s5 = (z, s6)) (hx : ((x : Int) == 2) = true) (S : ByteArray) (hS : Hid ((⟨key.toArray⟩ : ByteArray) = S))
    (hV : ∀ w, Calls Tryd.prog 13 #[.agg #[.int .i64 1, V f, .string S, .int .i64 (x : Int), Z, Z, V y, V z, Z, Z, Z]] w fun e w' => e = .returned (.bool o) ∧ Up w w') :
    Calls Tryd.prog 14 #[v] w fun e w' => e = .returned (decT aS aF s6 o (.agg #[.int .i64 1, V f, .string S, .int .i64 (x : Int), Z, Z, V y, V z, Z, Z, Z])) ∧ Up w w' := by
  have kK := isKind_yes 1 (by omega) (by omega)
  obtain ⟨s1, hs1n⟩ : ∃ s1, s1 = some b1 := ⟨_, rfl⟩
  rw [← hs1n] at e0
  have hS1 : Hid (s1 = some b1) := hs1n
  have E1 : Hid (rdA 8 (some b1) = (f, s2)) := e1
  have E2 : Hid (rdTA s2 = (key, s3)) := e2
  clear e1 e2 hs1n
  have E3 : Hid (rdA 1 s3 = (x, s4)) := e3
  have E4 : Hid (rdA 8 s4 = (y, s5)) := e4
  have E5 : Hid (rdA 8 s5 = (z, s6)) := e5
  clear e3 e4 e5
  have HX : Hid (((x : Int) == 2) = true) := hx
  clear hx
  have hn0 : w.heap.size < w.heap.size + 1 := by omega
  go_enter Tryd.func14, Tryd.ntmps14
  have bz : Box (w.alloc (.cells Zs 32)) w.heap.size Zs := Box.new _ _ _
  have uz : Up w (w.alloc (.cells Zs 32)) := Up.alloc _ _
  have hs1 := hs.up uz
  clear hs
  have zz : (w.alloc (.cells Zs 32)).heap.size = w.heap.size + 1 := by simp
  go_wp2_with fail
  refine (NewReader_any base v b _ hs1 hl.out).mono ?_
  rintro e w1 ⟨r, rfl, hr0, hrd, u1⟩
  rw [zz] at hr0
  have U1 := uz.trans u1
  have R1 : RdS w1.heap.size w1 r aS aF (some b) := ⟨hrd.lt, Nat.le_refl _, hrd.pR, hgS.up U1, hgF.up U1, (hgS.up U1).lt, (hgF.up U1).lt⟩
  have b1 := bz.up u1
  have zb := b1.lt
  clear hrd hs1 u1 uz bz
  go_wp2_with fail
  have k0 := U8_S R1
  rw [e0] at k0
  refine k0.mono ?_
  rintro e w2 ⟨rfl, R2, g2⟩
  clear k0
  have U2 : Up w w2 := Below.trans U1 (g2.below (by omega) (by omega))
  have b2 := b1.but g2 (show w.heap.size ≠ r by omega)
  have z2 : w1.heap.size ≤ w2.heap.size := R2.sz
  have hcu : w.heap.size < w2.heap.size := by omega
  have hcr : r < w2.heap.size := by have := R2.lt; omega
  go_wp2_with fail
  have D1 : DcS w (w2.alloc (.cells #[.int .i64 1, Z, .string es, .int .i64 0, Z, Z, Z, Z, Z, Z, Z] 32)) w.heap.size w2.heap.size r w1.heap.size aS aF s1 #[.int .i64 1, Z, .string es, .int .i64 0, Z, Z, Z, Z, Z, Z, Z] :=
    ⟨U2.trans (Up.alloc _ _), R2.below ((Up.alloc _ _).mono R2.sz), b2.alloc _, Box.new _ _ _, Nat.le_refl _, by omega, by omega, by omega, z2⟩
  clear b2 R2 U2 b1 R1 U1 g2
  generalize w2.alloc _ = w3 at *
  obtain ⟨N1, hN1⟩ : ∃ N1, w2.heap.size = N1 := ⟨_, rfl⟩
  rw [hN1] at D1 hcu hcr z2 ⊢
  obtain rfl := hS1.out
  obtain ⟨c0, c1, c2, c3, c4, c5, c6, c7, c8, c9, c10⟩ := D1.b1.c11
  have cf := D1.b1.frozen
  have cl := D1.b1.lt
  have kE := Err_S D1.rs
  rw [if_neg (by simp)] at kE
  refine kE.mono ?_
  rintro e w4 ⟨rfl, rfl⟩
  clear kE
  go_wp2_with fail
  refine (kK _).mono ?_
  rintro e w5 ⟨rfl, rfl⟩
  clear kK
  go_wp2_with fail
  have k : ∀ u, RdS w1.heap.size u r aS aF (some b1) → Calls Tryd.prog 31 #[.pointer (some ⟨r, 0, none⟩)] u fun e w' => e = .returned (V f) ∧ RdS w1.heap.size w' r aS aF s2 ∧ But r u w' := fun u hu => by
    have := U64_S hu
    rw [E1.out] at this
    exact this
  refine (k _ D1.rs).mono ?_
  rintro e w6 ⟨rfl, R5, g5⟩
  replace D1 := D1.read R5 g5
  clear k R5 g5
  clear c0 c1 c2 c3 c4 c5 c6 c7 c8 c9 c10 cf cl
  obtain ⟨c0, c1, c2, c3, c4, c5, c6, c7, c8, c9, c10⟩ := D1.b1.c11
  have cf := D1.b1.frozen
  have cl := D1.b1.lt
  go_wp2_with fail
  clear c0 c1 c2 c3 c4 c5 c6 c7 c8 c9 c10 cf cl
  replace D1 := (D1.set 1 (V f)).cast (ds := #[.int .i64 1, V f, .string es, .int .i64 0, Z, Z, Z, Z, Z, Z, Z]) rfl
  generalize World.setCell w6 _ _ = w7 at *
  obtain ⟨c0, c1, c2, c3, c4, c5, c6, c7, c8, c9, c10⟩ := D1.b1.c11
  have cf := D1.b1.frozen
  have cl := D1.b1.lt
  have k : ∀ u, RdS w1.heap.size u r aS aF s2 → Calls Tryd.prog 32 #[.pointer (some ⟨r, 0, none⟩)] u fun e w' => e = .returned (.string S) ∧ RdS w1.heap.size w' r aS aF s3 ∧ But r u w' := fun u hu => by
    have := Text_S hu
    rw [E2.out] at this
    simp only [hS.out] at this
    exact this
  refine (k _ D1.rs).mono ?_
  rintro e w8 ⟨rfl, R5, g5⟩
  replace D1 := D1.read R5 g5
  clear k R5 g5
  clear c0 c1 c2 c3 c4 c5 c6 c7 c8 c9 c10 cf cl
  obtain ⟨c0, c1, c2, c3, c4, c5, c6, c7, c8, c9, c10⟩ := D1.b1.c11
  have cf := D1.b1.frozen
  have cl := D1.b1.lt
  go_wp2_with fail
  clear c0 c1 c2 c3 c4 c5 c6 c7 c8 c9 c10 cf cl
  replace D1 := (D1.set 2 (.string S)).cast (ds := #[.int .i64 1, V f, .string S, .int .i64 0, Z, Z, Z, Z, Z, Z, Z]) rfl
  generalize World.setCell w8 _ _ = w9 at *
  obtain ⟨c0, c1, c2, c3, c4, c5, c6, c7, c8, c9, c10⟩ := D1.b1.c11
  have cf := D1.b1.frozen
  have cl := D1.b1.lt
  have k : ∀ u, RdS w1.heap.size u r aS aF s3 → Calls Tryd.prog 33 #[.pointer (some ⟨r, 0, none⟩)] u fun e w' => e = .returned (.agg #[.int .i64 (x : Int), Z, Z, V y, V z]) ∧ RdS w1.heap.size w' r aS aF s6 ∧ But r u w' := fun u hu => takePolicy_2 hu E3.out E4.out E5.out HX.out
  refine (k _ D1.rs).mono ?_
  rintro e w10 ⟨rfl, R5, g5⟩
  replace D1 := D1.read R5 g5
  clear k R5 g5
  clear c0 c1 c2 c3 c4 c5 c6 c7 c8 c9 c10 cf cl
  obtain ⟨c0, c1, c2, c3, c4, c5, c6, c7, c8, c9, c10⟩ := D1.b1.c11
  have cf := D1.b1.frozen
  have cl := D1.b1.lt
  go_wp2_with fail
  clear c0 c1 c2 c3 c4 c5 c6 c7 c8 c9 c10 cf cl
  replace D1 := (((((D1.set 3 (.int .i64 (x : Int))).set 4 Z).set 5 Z).set 6 (V y)).set 7 (V z)).cast (ds := #[.int .i64 1, V f, .string S, .int .i64 (x : Int), Z, Z, V y, V z, Z, Z, Z]) rfl
  generalize World.setCell (World.setCell _ _ _) _ _ = w11 at *
  obtain ⟨c0, c1, c2, c3, c4, c5, c6, c7, c8, c9, c10⟩ := D1.b1.c11
  have cf := D1.b1.frozen
  have cl := D1.b1.lt
  rcases hse : s6 with _ | l
  · rw [hse] at D1
    have k : Calls Tryd.prog 35 #[.pointer (some ⟨r, 0, none⟩)] w11 fun e w' => e = .returned (E aS) ∧ w' = w11 := End_S D1.rs
    refine k.mono ?_
    rintro e wA ⟨rfl, rfl⟩
    clear k
    clear c0 c1 c2 c3 c4 c5 c6 c7 c8 c9 c10 cf cl
    have zb0 := D1.b0
    obtain ⟨z0, z1, z2, z3, z4, z5, z6, z7, z8, z9, z10⟩ := zb0.c11
    have zf := zb0.frozen
    have zl := zb0.lt
    have UD := D1.up
    go_wp2
    have bF := boxSet11 zb0 (.int .i64 0) Z (.string es) (.int .i64 0) Z Z Z Z Z Z Z
    have UF := up_set11 UD (Nat.le_refl _) (.int .i64 0) Z (.string es) (.int .i64 0) Z Z Z Z Z Z Z
    clear z0 z1 z2 z3 z4 z5 z6 z7 z8 z9 z10 zf zb0 UD D1
    generalize World.setCell _ _ _ = wz at *
    obtain ⟨z0, z1, z2, z3, z4, z5, z6, z7, z8, z9, z10⟩ := bF.c11
    exact bodyPost_ret (v := .tuple #[.agg Zs, E aS]) (by simp [results, Tryd.results14, go_sem, z0, z1, z2, z3, z4, z5, z6, z7, z8, z9, z10]) rfl ⟨by rw [hse]; rfl, UF⟩
  · rw [hse] at D1
    rcases l with _ | ⟨cc, ll⟩
    · have k : Calls Tryd.prog 35 #[.pointer (some ⟨r, 0, none⟩)] w11 fun e w' => e = .returned .nilIface ∧ w' = w11 := End_S D1.rs
      refine k.mono ?_
      rintro e wA ⟨rfl, rfl⟩
      clear k
      go_wp2_with fail
      refine (hV _).mono ?_
      rintro e wB ⟨rfl, uB⟩
      replace D1 := D1.up' uB
      clear uB hV
      clear c0 c1 c2 c3 c4 c5 c6 c7 c8 c9 c10 cf cl
      cases o
      · have zb0 := D1.b0
        have cF := D1.rs.gf.cell
        obtain ⟨z0, z1, z2, z3, z4, z5, z6, z7, z8, z9, z10⟩ := zb0.c11
        have zf := zb0.frozen
        have zl := zb0.lt
        have UD := D1.up
        have hgl := D1.rs.gf.lt
        have hFN : (2 : Nat) ≠ w.heap.size := by have := hgF.lt; omega
        clear D1
        go_wp2_with fail
        go_region_with (fail)
        all_goals
          go_wp2
          simp only [Act.put, List.getElem_toArray, List.getElem_cons_succ, List.getElem_cons_zero]
          have bF := (boxSet11 zb0 (.int .i64 0) Z (.string es) (.int .i64 0) Z Z Z Z Z Z Z).drew
          have UF := (up_set11 UD (Nat.le_refl _) (.int .i64 0) Z (.string es) (.int .i64 0) Z Z Z Z Z Z Z).trans (Up.drew _)
          clear z0 z1 z2 z3 z4 z5 z6 z7 z8 z9 z10 zf zb0 UD
          generalize World.drew _ = wz at *
          obtain ⟨z0, z1, z2, z3, z4, z5, z6, z7, z8, z9, z10⟩ := bF.c11
          exact bodyPost_ret (v := .tuple #[.agg Zs, E aF]) (by simp [results, Tryd.results14, go_sem, z0, z1, z2, z3, z4, z5, z6, z7, z8, z9, z10]) rfl ⟨by rw [hse]; rfl, UF⟩
      · obtain ⟨c0, c1, c2, c3, c4, c5, c6, c7, c8, c9, c10⟩ := D1.b1.c11
        have cf := D1.b1.frozen
        have cl := D1.b1.lt
        have zb0 := D1.b0
        obtain ⟨z0, z1, z2, z3, z4, z5, z6, z7, z8, z9, z10⟩ := zb0.c11
        have zf := zb0.frozen
        have zl := zb0.lt
        have UD := D1.up
        have hNN : w.heap.size ≠ N1 := by omega
        go_wp2
        have bF := boxSet11 zb0 (.int .i64 1) (V f) (.string S) (.int .i64 (x : Int)) (Z) (Z) (V y) (V z) (Z) (Z) (Z)
        have UF := up_set11 UD (Nat.le_refl _) (.int .i64 1) (V f) (.string S) (.int .i64 (x : Int)) (Z) (Z) (V y) (V z) (Z) (Z) (Z)
        clear z0 z1 z2 z3 z4 z5 z6 z7 z8 z9 z10 zf zb0 UD D1
        clear c0 c1 c2 c3 c4 c5 c6 c7 c8 c9 c10 cf cl
        generalize World.setCell (World.setCell _ _ _) _ _ = wz at *
        obtain ⟨z0, z1, z2, z3, z4, z5, z6, z7, z8, z9, z10⟩ := bF.c11
        exact bodyPost_ret (v := .tuple #[.agg #[.int .i64 1, V f, .string S, .int .i64 (x : Int), Z, Z, V y, V z, Z, Z, Z], .nilIface]) (by simp [results, Tryd.results14, go_sem, z0, z1, z2, z3, z4, z5, z6, z7, z8, z9, z10]) rfl ⟨by rw [hse]; rfl, UF⟩
    · have k : Calls Tryd.prog 35 #[.pointer (some ⟨r, 0, none⟩)] w11 fun e w' => e = .returned (E aF) ∧ w' = w11 := End_S D1.rs
      refine k.mono ?_
      rintro e wA ⟨rfl, rfl⟩
      clear k
      clear c0 c1 c2 c3 c4 c5 c6 c7 c8 c9 c10 cf cl
      have zb0 := D1.b0
      obtain ⟨z0, z1, z2, z3, z4, z5, z6, z7, z8, z9, z10⟩ := zb0.c11
      have zf := zb0.frozen
      have zl := zb0.lt
      have UD := D1.up
      go_wp2
      have bF := boxSet11 zb0 (.int .i64 0) Z (.string es) (.int .i64 0) Z Z Z Z Z Z Z
      have UF := up_set11 UD (Nat.le_refl _) (.int .i64 0) Z (.string es) (.int .i64 0) Z Z Z Z Z Z Z
      clear z0 z1 z2 z3 z4 z5 z6 z7 z8 z9 z10 zf zb0 UD D1
      generalize World.setCell _ _ _ = wz at *
      obtain ⟨z0, z1, z2, z3, z4, z5, z6, z7, z8, z9, z10⟩ := bF.c11
      exact bodyPost_ret (v := .tuple #[.agg Zs, E aF]) (by simp [results, Tryd.results14, go_sem, z0, z1, z2, z3, z4, z5, z6, z7, z8, z9, z10]) rfl ⟨by rw [hse]; rfl, UF⟩

set_option maxRecDepth 20000 in
set_option maxHeartbeats 3200000 in
theorem Decode_ceil (base : Nat) (v : Value) (b : List UInt8) (w : World) (aS aF : Addr) (hs : Sl base w v b) (hl : Hid (b.length ≤ 140737488351232)) (hgS : Gl w 1 aS) (hgF : Gl w 2 aF) {b1 key : List UInt8} {f : Nat} {s2 s3 : Option (List UInt8)} {s4 s5 s6 : Option (List UInt8)} {x y z : Nat} (o : Bool) (e0 : rdA 1 (some b) = (3, some b1)) (e1 : rdA 8 (some b1) = (f, s2)) (e2 : rdTA s2 = (key, s3)) (e3 : rdA 8 s3 = (x, s4)) (e4 : rdA 8 s4 = (y, s5)) (e5 : rdA 8 s5 = (z, s6)) (S : ByteArray) (hS : Hid ((⟨key.toArray⟩ : ByteArray) = S))
    (hV : ∀ w, Calls Tryd.prog 13 #[.agg #[.int .i64 3, V f, .string S, .int .i64 0, Z, Z, Z, Z, V x, V y, V z]] w fun e w' => e = .returned (.bool o) ∧ Up w w') :
    Calls Tryd.prog 14 #[v] w fun e w' => e = .returned (decT aS aF s6 o (.agg #[.int .i64 3, V f, .string S, .int .i64 0, Z, Z, Z, Z, V x, V y, V z])) ∧ Up w w' := by
  have kK := isKind_yes 3 (by omega) (by omega)
  obtain ⟨s1, hs1n⟩ : ∃ s1, s1 = some b1 := ⟨_, rfl⟩
  rw [← hs1n] at e0
  have hS1 : Hid (s1 = some b1) := hs1n
  have E1 : Hid (rdA 8 (some b1) = (f, s2)) := e1
  have E2 : Hid (rdTA s2 = (key, s3)) := e2
  clear e1 e2 hs1n
  have E3 : Hid (rdA 8 s3 = (x, s4)) := e3
  have E4 : Hid (rdA 8 s4 = (y, s5)) := e4
  have E5 : Hid (rdA 8 s5 = (z, s6)) := e5
  clear e3 e4 e5
  have hn0 : w.heap.size < w.heap.size + 1 := by omega
  go_enter Tryd.func14, Tryd.ntmps14
  have bz : Box (w.alloc (.cells Zs 32)) w.heap.size Zs := Box.new _ _ _
  have uz : Up w (w.alloc (.cells Zs 32)) := Up.alloc _ _
  have hs1 := hs.up uz
  clear hs
  have zz : (w.alloc (.cells Zs 32)).heap.size = w.heap.size + 1 := by simp
  go_wp2_with fail
  refine (NewReader_any base v b _ hs1 hl.out).mono ?_
  rintro e w1 ⟨r, rfl, hr0, hrd, u1⟩
  rw [zz] at hr0
  have U1 := uz.trans u1
  have R1 : RdS w1.heap.size w1 r aS aF (some b) := ⟨hrd.lt, Nat.le_refl _, hrd.pR, hgS.up U1, hgF.up U1, (hgS.up U1).lt, (hgF.up U1).lt⟩
  have b1 := bz.up u1
  have zb := b1.lt
  clear hrd hs1 u1 uz bz
  go_wp2_with fail
  have k0 := U8_S R1
  rw [e0] at k0
  refine k0.mono ?_
  rintro e w2 ⟨rfl, R2, g2⟩
  clear k0
  have U2 : Up w w2 := Below.trans U1 (g2.below (by omega) (by omega))
  have b2 := b1.but g2 (show w.heap.size ≠ r by omega)
  have z2 : w1.heap.size ≤ w2.heap.size := R2.sz
  have hcu : w.heap.size < w2.heap.size := by omega
  have hcr : r < w2.heap.size := by have := R2.lt; omega
  go_wp2_with fail
  have D1 : DcS w (w2.alloc (.cells #[.int .i64 3, Z, .string es, .int .i64 0, Z, Z, Z, Z, Z, Z, Z] 32)) w.heap.size w2.heap.size r w1.heap.size aS aF s1 #[.int .i64 3, Z, .string es, .int .i64 0, Z, Z, Z, Z, Z, Z, Z] :=
    ⟨U2.trans (Up.alloc _ _), R2.below ((Up.alloc _ _).mono R2.sz), b2.alloc _, Box.new _ _ _, Nat.le_refl _, by omega, by omega, by omega, z2⟩
  clear b2 R2 U2 b1 R1 U1 g2
  generalize w2.alloc _ = w3 at *
  obtain ⟨N1, hN1⟩ : ∃ N1, w2.heap.size = N1 := ⟨_, rfl⟩
  rw [hN1] at D1 hcu hcr z2 ⊢
  obtain rfl := hS1.out
  obtain ⟨c0, c1, c2, c3, c4, c5, c6, c7, c8, c9, c10⟩ := D1.b1.c11
  have cf := D1.b1.frozen
  have cl := D1.b1.lt
  have kE := Err_S D1.rs
  rw [if_neg (by simp)] at kE
  refine kE.mono ?_
  rintro e w4 ⟨rfl, rfl⟩
  clear kE
  go_wp2_with fail
  refine (kK _).mono ?_
  rintro e w5 ⟨rfl, rfl⟩
  clear kK
  go_wp2_with fail
  have k : ∀ u, RdS w1.heap.size u r aS aF (some b1) → Calls Tryd.prog 31 #[.pointer (some ⟨r, 0, none⟩)] u fun e w' => e = .returned (V f) ∧ RdS w1.heap.size w' r aS aF s2 ∧ But r u w' := fun u hu => by
    have := U64_S hu
    rw [E1.out] at this
    exact this
  refine (k _ D1.rs).mono ?_
  rintro e w6 ⟨rfl, R5, g5⟩
  replace D1 := D1.read R5 g5
  clear k R5 g5
  clear c0 c1 c2 c3 c4 c5 c6 c7 c8 c9 c10 cf cl
  obtain ⟨c0, c1, c2, c3, c4, c5, c6, c7, c8, c9, c10⟩ := D1.b1.c11
  have cf := D1.b1.frozen
  have cl := D1.b1.lt
  go_wp2_with fail
  clear c0 c1 c2 c3 c4 c5 c6 c7 c8 c9 c10 cf cl
  replace D1 := (D1.set 1 (V f)).cast (ds := #[.int .i64 3, V f, .string es, .int .i64 0, Z, Z, Z, Z, Z, Z, Z]) rfl
  generalize World.setCell w6 _ _ = w7 at *
  obtain ⟨c0, c1, c2, c3, c4, c5, c6, c7, c8, c9, c10⟩ := D1.b1.c11
  have cf := D1.b1.frozen
  have cl := D1.b1.lt
  have k : ∀ u, RdS w1.heap.size u r aS aF s2 → Calls Tryd.prog 32 #[.pointer (some ⟨r, 0, none⟩)] u fun e w' => e = .returned (.string S) ∧ RdS w1.heap.size w' r aS aF s3 ∧ But r u w' := fun u hu => by
    have := Text_S hu
    rw [E2.out] at this
    simp only [hS.out] at this
    exact this
  refine (k _ D1.rs).mono ?_
  rintro e w8 ⟨rfl, R5, g5⟩
  replace D1 := D1.read R5 g5
  clear k R5 g5
  clear c0 c1 c2 c3 c4 c5 c6 c7 c8 c9 c10 cf cl
  obtain ⟨c0, c1, c2, c3, c4, c5, c6, c7, c8, c9, c10⟩ := D1.b1.c11
  have cf := D1.b1.frozen
  have cl := D1.b1.lt
  go_wp2_with fail
  clear c0 c1 c2 c3 c4 c5 c6 c7 c8 c9 c10 cf cl
  replace D1 := (D1.set 2 (.string S)).cast (ds := #[.int .i64 3, V f, .string S, .int .i64 0, Z, Z, Z, Z, Z, Z, Z]) rfl
  generalize World.setCell w8 _ _ = w9 at *
  obtain ⟨c0, c1, c2, c3, c4, c5, c6, c7, c8, c9, c10⟩ := D1.b1.c11
  have cf := D1.b1.frozen
  have cl := D1.b1.lt
  have k : ∀ u, RdS w1.heap.size u r aS aF s3 → Calls Tryd.prog 34 #[.pointer (some ⟨r, 0, none⟩)] u fun e w' => e = .returned (Lv x y z) ∧ RdS w1.heap.size w' r aS aF s6 ∧ But r u w' := fun u hu => takeLevel_S hu E3.out E4.out E5.out
  refine (k _ D1.rs).mono ?_
  rintro e w10 ⟨rfl, R5, g5⟩
  replace D1 := D1.read R5 g5
  clear k R5 g5
  clear c0 c1 c2 c3 c4 c5 c6 c7 c8 c9 c10 cf cl
  obtain ⟨c0, c1, c2, c3, c4, c5, c6, c7, c8, c9, c10⟩ := D1.b1.c11
  have cf := D1.b1.frozen
  have cl := D1.b1.lt
  go_wp2_with fail
  clear c0 c1 c2 c3 c4 c5 c6 c7 c8 c9 c10 cf cl
  replace D1 := (((D1.set 8 (V x)).set 9 (V y)).set 10 (V z)).cast (ds := #[.int .i64 3, V f, .string S, .int .i64 0, Z, Z, Z, Z, V x, V y, V z]) rfl
  generalize World.setCell (World.setCell _ _ _) _ _ = w11 at *
  obtain ⟨c0, c1, c2, c3, c4, c5, c6, c7, c8, c9, c10⟩ := D1.b1.c11
  have cf := D1.b1.frozen
  have cl := D1.b1.lt
  rcases hse : s6 with _ | l
  · rw [hse] at D1
    have k : Calls Tryd.prog 35 #[.pointer (some ⟨r, 0, none⟩)] w11 fun e w' => e = .returned (E aS) ∧ w' = w11 := End_S D1.rs
    refine k.mono ?_
    rintro e wA ⟨rfl, rfl⟩
    clear k
    clear c0 c1 c2 c3 c4 c5 c6 c7 c8 c9 c10 cf cl
    have zb0 := D1.b0
    obtain ⟨z0, z1, z2, z3, z4, z5, z6, z7, z8, z9, z10⟩ := zb0.c11
    have zf := zb0.frozen
    have zl := zb0.lt
    have UD := D1.up
    go_wp2
    have bF := boxSet11 zb0 (.int .i64 0) Z (.string es) (.int .i64 0) Z Z Z Z Z Z Z
    have UF := up_set11 UD (Nat.le_refl _) (.int .i64 0) Z (.string es) (.int .i64 0) Z Z Z Z Z Z Z
    clear z0 z1 z2 z3 z4 z5 z6 z7 z8 z9 z10 zf zb0 UD D1
    generalize World.setCell _ _ _ = wz at *
    obtain ⟨z0, z1, z2, z3, z4, z5, z6, z7, z8, z9, z10⟩ := bF.c11
    exact bodyPost_ret (v := .tuple #[.agg Zs, E aS]) (by simp [results, Tryd.results14, go_sem, z0, z1, z2, z3, z4, z5, z6, z7, z8, z9, z10]) rfl ⟨by rw [hse]; rfl, UF⟩
  · rw [hse] at D1
    rcases l with _ | ⟨cc, ll⟩
    · have k : Calls Tryd.prog 35 #[.pointer (some ⟨r, 0, none⟩)] w11 fun e w' => e = .returned .nilIface ∧ w' = w11 := End_S D1.rs
      refine k.mono ?_
      rintro e wA ⟨rfl, rfl⟩
      clear k
      go_wp2_with fail
      refine (hV _).mono ?_
      rintro e wB ⟨rfl, uB⟩
      replace D1 := D1.up' uB
      clear uB hV
      clear c0 c1 c2 c3 c4 c5 c6 c7 c8 c9 c10 cf cl
      cases o
      · have zb0 := D1.b0
        have cF := D1.rs.gf.cell
        obtain ⟨z0, z1, z2, z3, z4, z5, z6, z7, z8, z9, z10⟩ := zb0.c11
        have zf := zb0.frozen
        have zl := zb0.lt
        have UD := D1.up
        have hgl := D1.rs.gf.lt
        have hFN : (2 : Nat) ≠ w.heap.size := by have := hgF.lt; omega
        clear D1
        go_wp2_with fail
        go_region_with (fail)
        all_goals
          go_wp2
          simp only [Act.put, List.getElem_toArray, List.getElem_cons_succ, List.getElem_cons_zero]
          have bF := (boxSet11 zb0 (.int .i64 0) Z (.string es) (.int .i64 0) Z Z Z Z Z Z Z).drew
          have UF := (up_set11 UD (Nat.le_refl _) (.int .i64 0) Z (.string es) (.int .i64 0) Z Z Z Z Z Z Z).trans (Up.drew _)
          clear z0 z1 z2 z3 z4 z5 z6 z7 z8 z9 z10 zf zb0 UD
          generalize World.drew _ = wz at *
          obtain ⟨z0, z1, z2, z3, z4, z5, z6, z7, z8, z9, z10⟩ := bF.c11
          exact bodyPost_ret (v := .tuple #[.agg Zs, E aF]) (by simp [results, Tryd.results14, go_sem, z0, z1, z2, z3, z4, z5, z6, z7, z8, z9, z10]) rfl ⟨by rw [hse]; rfl, UF⟩
      · obtain ⟨c0, c1, c2, c3, c4, c5, c6, c7, c8, c9, c10⟩ := D1.b1.c11
        have cf := D1.b1.frozen
        have cl := D1.b1.lt
        have zb0 := D1.b0
        obtain ⟨z0, z1, z2, z3, z4, z5, z6, z7, z8, z9, z10⟩ := zb0.c11
        have zf := zb0.frozen
        have zl := zb0.lt
        have UD := D1.up
        have hNN : w.heap.size ≠ N1 := by omega
        go_wp2
        have bF := boxSet11 zb0 (.int .i64 3) (V f) (.string S) (.int .i64 0) (Z) (Z) (Z) (Z) (V x) (V y) (V z)
        have UF := up_set11 UD (Nat.le_refl _) (.int .i64 3) (V f) (.string S) (.int .i64 0) (Z) (Z) (Z) (Z) (V x) (V y) (V z)
        clear z0 z1 z2 z3 z4 z5 z6 z7 z8 z9 z10 zf zb0 UD D1
        clear c0 c1 c2 c3 c4 c5 c6 c7 c8 c9 c10 cf cl
        generalize World.setCell (World.setCell _ _ _) _ _ = wz at *
        obtain ⟨z0, z1, z2, z3, z4, z5, z6, z7, z8, z9, z10⟩ := bF.c11
        exact bodyPost_ret (v := .tuple #[.agg #[.int .i64 3, V f, .string S, .int .i64 0, Z, Z, Z, Z, V x, V y, V z], .nilIface]) (by simp [results, Tryd.results14, go_sem, z0, z1, z2, z3, z4, z5, z6, z7, z8, z9, z10]) rfl ⟨by rw [hse]; rfl, UF⟩
    · have k : Calls Tryd.prog 35 #[.pointer (some ⟨r, 0, none⟩)] w11 fun e w' => e = .returned (E aF) ∧ w' = w11 := End_S D1.rs
      refine k.mono ?_
      rintro e wA ⟨rfl, rfl⟩
      clear k
      clear c0 c1 c2 c3 c4 c5 c6 c7 c8 c9 c10 cf cl
      have zb0 := D1.b0
      obtain ⟨z0, z1, z2, z3, z4, z5, z6, z7, z8, z9, z10⟩ := zb0.c11
      have zf := zb0.frozen
      have zl := zb0.lt
      have UD := D1.up
      go_wp2
      have bF := boxSet11 zb0 (.int .i64 0) Z (.string es) (.int .i64 0) Z Z Z Z Z Z Z
      have UF := up_set11 UD (Nat.le_refl _) (.int .i64 0) Z (.string es) (.int .i64 0) Z Z Z Z Z Z Z
      clear z0 z1 z2 z3 z4 z5 z6 z7 z8 z9 z10 zf zb0 UD D1
      generalize World.setCell _ _ _ = wz at *
      obtain ⟨z0, z1, z2, z3, z4, z5, z6, z7, z8, z9, z10⟩ := bF.c11
      exact bodyPost_ret (v := .tuple #[.agg Zs, E aF]) (by simp [results, Tryd.results14, go_sem, z0, z1, z2, z3, z4, z5, z6, z7, z8, z9, z10]) rfl ⟨by rw [hse]; rfl, UF⟩
end Go.Proofs.YtcllenlpoknakaaDoor
