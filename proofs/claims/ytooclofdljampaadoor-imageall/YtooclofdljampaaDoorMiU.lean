/- Merged: ImRefS, ImRefE, ImRefQ. -/
import Derived.Test.YtooclofdljampaaDoorImSum
import Derived.Test.YtooclofdljampaaDoorMiO
import Derived.Test.YtooclofdljampaaDoorMiT
import Derived.Test.YtooclofdljampaaDoorMiP
set_option linter.unusedVariables false
namespace Go.Proofs.YtooclofdljampaaDoor
open Go Go.RowKit

theorem refStep_any (x : W32) (w : World) : Calls Tryd.prog 67 #[U x] w fun e w' => e = .returned (U (stp x)) ∧ w' = w := by
  have hs : (x.toNat : Int) / 2 = ((x >>> 1).toNat : Int) := shr_u x 1
  by_cases h : x.toNat % 2 = 1
  · have hx : stp x = (x >>> 1) ^^^ poly := by unfold stp; rw [low_odd, decide_eq_true h, if_pos rfl]
    have hr : (x.toNat : Int) % 2 = 1 := by omega
    rw [hx]
    have hp := xor_poly (x >>> 1)
    rw [← hs] at hp
    go_enter Tryd.func67, Tryd.ntmps67
    go_wp2
    go_ret
    exact ⟨congrArg (fun z => Ending.returned (.int .u32 z)) hp, rfl⟩
  · have hx : stp x = (x >>> 1) := by unfold stp; rw [low_odd, decide_eq_false h]; simp
    have hr : (x.toNat : Int) % 2 = 0 := by omega
    rw [hx]
    go_enter Tryd.func67, Tryd.ntmps67
    go_wp2
    go_ret
    exact ⟨congrArg (fun z => Ending.returned (.int .u32 z)) hs, rfl⟩

set_option maxHeartbeats 400000 in
theorem refAdd_any (base : Nat) (s : W32) (v : Value) (bs : List UInt8) (w : World) (hs : Sl base w v bs) (hl : bs.length ≤ 140737488355328) :
    Calls Tryd.prog 54 #[U s, v] w fun e w' => e = .returned (U (addC s bs)) ∧ w' = w := by
  generalize hR : addC s bs = R
  have HR : Hid (addC s bs = R) := hR
  clear hR
  have hn := not_u s
  have HR' : Hid (~~~ addB (~~~ s) bs = R) := HR
  clear HR
  generalize ~~~ s = ns at hn HR'
  obtain ⟨ao, cap, rfl, hc, _, hx⟩ := hs
  go_enter Tryd.func54, Tryd.ntmps54
  go_wp2
  go_loopg [5, 6, 7] bs.length (fun g x i j wr => w = wr ∧ ∃ k : Nat, k ≤ bs.length ∧ g = bs.length - k ∧ i = .int .i64 k ∧ x = U (addB ns (bs.take k)))
  case atStart => exact ⟨rfl, 0, by omega, rfl, rfl, rfl⟩
  case round =>
    obtain ⟨rfl, k, hk, rfl, rfl, rfl⟩ := hrel
    by_cases hlt : k < bs.length
    · obtain ⟨b, o, rfl, _, hat⟩ := hx (by rintro rfl; simp at hlt)
      have hca := hat k hlt
      have hxb := xor_byte (addB ns (bs.take k)) bs[k]
      have ht8 : Hid (addB ns (bs.take (k + 1)) = stpn 8 (addB ns (bs.take k) ^^^ byt bs[k])) := addB_take _ _ _ hlt
      have Hlt : Hid (k < bs.length) := hlt
      clear hx hat
      generalize bs[k] = c at hca hxb ht8
      generalize addB ns (bs.take k) = X at hxb ht8
      generalize X ^^^ byt c = V at hxb ht8
      go_wp2
      go_loopg [5, 7] 8 (fun g x j wr => w = wr ∧ ∃ t : Nat, t ≤ 8 ∧ g = 8 - t ∧ j = .int .i64 t ∧ x = U (stpn t V))
      case atStart => exact ⟨rfl, 0, by omega, rfl, rfl, rfl⟩
      case round =>
        obtain ⟨rfl, t, ht, rfl, rfl, rfl⟩ := hrel
        by_cases htl : t = 8
        · subst htl
          go_wp2
          go_roundg (bs.length - (k + 1))
          case measure => have := Hlt.out; omega
          case rel => exact ⟨rfl, k + 1, Hlt.out, rfl, by go_num, by rw [ht8.out]⟩
        · have ht7 : (t : Int) < 8 := by omega
          have h4 := refStep_any (stpn t V) w
          rw [stp_stpn] at h4
          have Ht : Hid (t < 8) := by show t < 8; omega
          clear ht htl
          go_wp2_with fail
          refine h4.mono ?_
          rintro e w1 ⟨rfl, rfl⟩
          clear h4
          go_wp2
          go_roundg (8 - (t + 1))
          case measure => have := Ht.out; omega
          case rel => exact ⟨rfl, t + 1, Ht.out, rfl, by go_num, rfl⟩
    · obtain rfl : k = bs.length := by omega
      have hnn := not_u (addB ns bs)
      rw [HR'.out] at hnn
      rw [List.take_length]
      clear hlt hx
      go_wp2
      go_ret
      exact ⟨rfl, rfl⟩

theorem refSum_any (base : Nat) (v : Value) (bs : List UInt8) (w : World) (hs : Sl base w v bs) (hl : bs.length ≤ 140737488355328) :
    Calls Tryd.prog 37 #[v] w fun e w' => e = .returned (U (sumC bs)) ∧ w' = w := by
  have hA := refAdd_any base 0#32 v bs w hs hl
  obtain ⟨ao, cap, rfl, _⟩ := hs
  go_enter Tryd.func37, Tryd.ntmps37
  go_wp2_with fail
  refine hA.mono ?_
  rintro e w1 ⟨rfl, rfl⟩
  go_wp2
  go_ret
  exact ⟨rfl, rfl⟩
end Go.Proofs.YtooclofdljampaaDoor

set_option linter.unusedVariables false
set_option linter.unusedSimpArgs false
namespace Go.Proofs.YtooclofdljampaaDoor
open Go Go.RowKit

theorem own_mk (w : World) (cs : List UInt8) (K : Nat) (hK : w.heap.size = K) (hl : cs.length ≤ 1000000) : Own (w.alloc (.cells (Bv cs).toArray 5)) 5 K (.slice (some ⟨K, 0, none⟩) cs.length cs.length) cs := by
  subst hK
  exact ⟨by simp, .inr ⟨w.heap.size, cs.length, _, rfl, Nat.le_refl _, heap_alloc_new _ _, Nat.le_refl _, by unfold maxLen; omega, by simp, by rw [Nat.mul_one, List.toList_toArray, List.take_of_length_le (by simp)]⟩⟩

theorem qiEncode_no (v : Value) (l f : Nat) (xs : List Ent) (w : World) (h : SlE w v xs) (hl : xs.length ≤ 4611686018427387903) (hxs : ∀ x ∈ xs, x.1.size ≤ 9223372036854775807) (hok : okS ⟨l, f, xs⟩ = false) :
    Calls Tryd.prog 21 #[.agg #[V l, V f, v]] w fun e w' => e = .returned (.tuple #[.slice none 0 0, .int .i64 1]) ∧ Up w w' := by
  have hV := fun w' (u : Up w w') => rValid_any v l f xs w' (h.up u) hl hxs
  rw [hok] at hV
  obtain ⟨ao, cap, rfl⟩ := h.shape
  obtain ⟨N, hN⟩ : ∃ N, xs.length = N := ⟨_, rfl⟩
  rw [hN] at hV ⊢
  clear hN hl hok h hxs
  have b0 : Box (w.alloc (.cells #[V l, V f, .slice ao N cap] 29)) w.heap.size #[V l, V f, .slice ao N cap] := Box.new _ _ _
  have u0 : Up w (w.alloc (.cells #[V l, V f, .slice ao N cap] 29)) := Up.alloc _ _
  go_enter Tryd.func21, Tryd.ntmps21
  go_upto_region 1 with fail
  generalize w.alloc (.cells #[V l, V f, .slice ao N cap] 29) = w0 at b0 u0 ⊢
  obtain ⟨c0, c1, c2⟩ := b0.c3
  go_wp2_with fail
  refine (hV _ u0).mono ?_
  rintro e w1 ⟨rfl, u1⟩
  go_wp2
  go_ret2
  exact ⟨rfl, u0.trans u1⟩

/-- What the loop keeps. -/
structure QE (w wr : World) (B K l f N : Nat) (ao : Option Addr) (cap : Nat) (v : Value) (bs : List UInt8) : Prop where
  own : Own wr 5 K v bs
  up : Up w wr
  bx : Box wr B #[V l, V f, .slice ao N cap]
  lt : B < K
  le : w.heap.size ≤ B
  sz : K ≤ wr.heap.size
theorem QE.not {w wr : World} {B K l f N : Nat} {ao : Option Addr} {cap : Nat} {v : Value} {bs : List UInt8} (h : QE w wr B K l f N ao cap v bs) : v.ownBlock ≠ some B := fun e => by
  have := (World.ownsRow.lt h.own B e).1
  have := h.lt
  omega
theorem QE.alloc {w wr wi : World} {B K l f N : Nat} {ao : Option Addr} {cap : Nat} {v : Value} {bs : List UInt8} (h : QE w wr B K l f N ao cap v bs) (u : Up wr wi) : QE w wi B K l f N ao cap v bs :=
  ⟨own_up h.own u, h.up.trans u, h.bx.up u, h.lt, h.le, Nat.le_trans h.sz u.size⟩
theorem QE.next {w wr wj : World} {B K l f N : Nat} {ao : Option Addr} {cap : Nat} {v v' : Value} {bs cs : List UInt8} (h : QE w wr B K l f N ao cap v bs) (t : Tl wr wj K v v' cs) : QE w wj B K l f N ao cap v' cs :=
  ⟨t.own, Below.trans h.up ((t.below h.own (Nat.le_refl _) h.sz).mono (by have := h.lt; have := h.le; omega)), t.box h.bx h.not, h.lt, h.le, Nat.le_trans h.sz t.old.size⟩

set_option maxRecDepth 20000 in
set_option maxHeartbeats 6400000 in
theorem qiEncode_ok (v : Value) (l f : Nat) (xs : List Ent) (w : World) (h : SlE w v xs) (h64 : St64 ⟨l, f, xs⟩) (hok : okS ⟨l, f, xs⟩ = true) :
    Calls Tryd.prog 21 #[.agg #[V l, V f, v]] w fun e w' => ∃ v', e = .returned (.tuple #[v', .int .i64 0]) ∧ Own w' 5 w.heap.size v' (imgB ⟨l, f, xs⟩) ∧ Up w w' := by
  have hO := (okS_iff _).1 hok
  have hlen : xs.length ≤ 4096 := hO.len
  have hV := fun w' (u : Up w w') => rValid_any v l f xs w' (h.up u) (by omega) (fun x hx => by have := (hO.each x hx).2.1; omega)
  rw [hok] at hV
  have HI : Hid (imgB ⟨l, f, xs⟩ = hedB l f xs.length ++ keysB xs ++ bl 4 (sumC (hedB l f xs.length ++ keysB xs)).toNat) := imgB_hed _
  have H64 : Hid (l < 2 ^ 64 ∧ f < 2 ^ 64) := ⟨h64.lsn, h64.floor⟩
  have HE : Hid (∀ x ∈ xs, x.1.size ≤ 64 ∧ FitE x ∧ Ent64 x) := fun x hx => ⟨(hO.each x hx).2.1, FitE.of (hO.each x hx).2.1 (hO.each x hx).2.2, h64.ent x hx⟩
  have HKL : Hid (∀ i, i ≤ xs.length → (hedB l f xs.length ++ keysB (xs.take i)).length ≤ 500000) := fun i hi => by
    rw [List.length_append, hedB_len]
    have := keysB_len (xs.take i) fun x hx => (HE.out x (List.mem_of_mem_take hx)).1
    rw [List.length_take] at this
    omega
  obtain ⟨ao, cap, rfl, hc, hn, hx⟩ := h
  have HX : Hid (xs ≠ [] → ∃ b o, ao = some ⟨b, o, none⟩ ∧ EntsAt w b o xs) := hx
  generalize imgB ⟨l, f, xs⟩ = IMG at HI ⊢
  obtain ⟨N, hN⟩ : ∃ N, xs.length = N := ⟨_, rfl⟩
  have HN : Hid (xs.length = N) := hN
  rw [hN] at hV HI HKL hlen hc ⊢
  clear hN hO hx hok h64
  have hl3 : (N : Int) ≤ 4096 := by omega
  have b0 : Box (w.alloc (.cells #[V l, V f, .slice ao N cap] 29)) w.heap.size #[V l, V f, .slice ao N cap] := Box.new _ _ _
  have u0 : Up w (w.alloc (.cells #[V l, V f, .slice ao N cap] 29)) := Up.alloc _ _
  have HW : Hid (w.heap.size ≤ w.heap.size) := Nat.le_refl _
  go_enter Tryd.func21, Tryd.ntmps21
  go_upto_region 1 with fail
  generalize w.alloc (.cells #[V l, V f, .slice ao N cap] 29) = w0 at b0 u0 ⊢
  obtain ⟨c0, c1, c2⟩ := b0.c3
  go_wp2_with fail
  refine (hV _ u0).mono ?_
  rintro e w1 ⟨rfl, u1⟩
  obtain ⟨K, hK⟩ : ∃ K, w1.heap.size = K := ⟨_, rfl⟩
  have b1 := b0.up u1
  have hlt := b1.lt
  have u2 : Up w1 (w1.alloc (.cells (Bv mrk).toArray 5 (0, 0))) := Up.alloc _ _
  have Q0 : QE w (w1.alloc (.cells (Bv mrk).toArray 5 (0, 0))) w.heap.size K l f N ao cap (.slice (some ⟨K, 0, none⟩) 4 4) mrk :=
    ⟨own_mk w1 mrk K hK (by decide), (u0.trans u1).trans u2, b1.up u2, by omega, Nat.le_refl _, by rw [← hK]; exact u2.size⟩
  have Q0' : QE w (w1.alloc (.cells #[.int .u8 84, .int .u8 73, .int .u8 48, .int .u8 49] 5)) w.heap.size K l f N ao cap (.slice (some ⟨K, 0, none⟩) 4 4) mrk := Q0
  clear c0 c1 c2 b0 u0 u1 hV b1 u2 Q0 hlt
  obtain ⟨c0, c1, c2⟩ := Q0'.bx.c3
  go_wp2_with fail
  try rw [hK]
  refine (qPut_any K _ mrk l 8 _ Q0'.own Q0'.sz (by decide) (by omega) H64.out.1).mono ?_
  rintro e w3 ⟨v3, rfl, T3⟩
  have Q3 := Q0'.next T3
  clear c0 c1 c2 T3 Q0' hK
  obtain ⟨c0, c1, c2⟩ := Q3.bx.c3
  go_wp2_with fail
  refine (qPut_any K _ _ f 8 _ Q3.own Q3.sz (by rw [List.length_append, bl_length, mrk_length]; decide) (by omega) H64.out.2).mono ?_
  rintro e w4 ⟨v4, rfl, T4⟩
  have Q4 := Q3.next T4
  clear c0 c1 c2 T4 Q3
  obtain ⟨c0, c1, c2⟩ := Q4.bx.c3
  go_wp2_with fail
  refine (qPut_any K _ _ N 4 _ Q4.own Q4.sz (by rw [List.length_append, List.length_append, bl_length, bl_length, mrk_length]; decide) (by omega) (by omega)).mono ?_
  rintro e w5 ⟨v5, rfl, T5⟩
  have Q5 := Q4.next T5
  have HS : Hid (QE w w5 w.heap.size K l f N ao cap v5 (hedB l f N ++ keysB (xs.take 0))) := by
    show QE _ _ _ _ _ _ _ _ _ _ _
    have := Q5; simpa [keysB, hedB] using this
  clear c0 c1 c2 T5 Q4 Q5
  go_wp2
  go_loopg [5, 6] N (fun g s5 s6 wr => ∃ (i : Nat), i ≤ N ∧ g = N - i ∧ s6 = .int .i64 i ∧ Hid (QE w wr w.heap.size K l f N ao cap s5 (hedB l f N ++ keysB (xs.take i))))
  case atStart => exact ⟨0, by omega, rfl, rfl, HS⟩
  case round =>
    clear HS
    obtain ⟨i, hi, rfl, rfl, HR⟩ := hrel
    obtain ⟨s0, s1, s2⟩ := HR.out.bx.c3
    by_cases hlt : i < N
    · have hm : i < xs.length := by rw [HN.out]; exact hlt
      obtain ⟨b, o, rfl, ha⟩ := HX.out (by rintro rfl; simp at hm)
      obtain ⟨c0, c1, c2, c3, c4, c5, c6, c7, c8⟩ := (ha.block fun hl => HR.out.up.block b hl).at _ hm
      have HF : Hid (xs[i].1.size ≤ 64 ∧ FitE xs[i] ∧ Ent64 xs[i]) := HE.out _ (List.getElem_mem hm)
      have ht := List.take_succ_eq_append_getElem hm
      have HD : Hid (i < N) := hlt
      generalize xs[i] = x at c0 c1 c2 c3 c4 c5 c6 c7 c8 HF ht
      have HK : Hid (hedB l f N ++ keysB (xs.take i) ++ entB x = hedB l f N ++ keysB (xs.take (i + 1))) := by show _ = _; rw [ht, keysB_snoc, List.append_assoc]
      have HL : Hid ((hedB l f N ++ keysB (xs.take i)).length ≤ 500000) := HKL.out i (by omega)
      generalize hBS : hedB l f N ++ keysB (xs.take i) = BS at HR HK HL
      obtain ⟨S, ⟨pk, pg, ps, pq, pp⟩, lt, li, lc⟩ := x
      simp only [EV] at c0 c1 c2 c3 c4 c5 c6 c7 c8
      have HSS : Hid ((S.size : Int) ≤ 64) := by have := HF.out.1; show (S.size : Int) ≤ 64; simp only at this; omega
      have h64 := HF.out.2.2
      have H6 : Hid (pg < 2 ^ 64 ∧ ps < 2 ^ 64 ∧ pq < 2 ^ 64 ∧ pp < 2 ^ 64 ∧ lt < 2 ^ 64 ∧ li < 2 ^ 64 ∧ lc < 2 ^ 64) := ⟨h64.g, h64.s, h64.l, h64.p, h64.t, h64.i, h64.c⟩
      have hform := HF.out.2.1.form
      simp only at hform
      clear ha hm ht h64 HF hBS
      have U9 : Up wr (wr.alloc (.cells #[.string S, .int .i64 pk, V pg, V ps, V pq, V pp, V lt, V li, V lc] 50)) := Up.alloc _ _
      have B9 : Box (wr.alloc (.cells #[.string S, .int .i64 pk, V pg, V ps, V pq, V pp, V lt, V li, V lc] 50)) wr.heap.size #[.string S, .int .i64 pk, V pg, V ps, V pq, V pp, V lt, V li, V lc] := Box.new _ _ _
      have hno : Hid (u5.ownBlock ≠ some wr.heap.size) := own_not HR.out.own (Nat.le_refl _)
      have Q9 := HR.out.alloc U9
      have HQ0 : Hid (QE w wr w.heap.size K l f N (some ⟨b, o, none⟩) cap u5 BS) := HR.out
      go_upto_region 12 with fail
      generalize wr.alloc (.cells #[.string S, .int .i64 pk, V pg, V ps, V pq, V pp, V lt, V li, V lc] 50) = W9 at *
      generalize wr.heap.size = E9 at *
      have HQ9 : Hid (QE w W9 w.heap.size K l f N (some ⟨b, o, none⟩) cap u5 BS) := Q9
      have HB9 : Hid (Box W9 E9 #[.string S, .int .i64 pk, V pg, V ps, V pq, V pp, V lt, V li, V lc]) := B9
      clear c0 c1 c2 c3 c4 c5 c6 c7 c8 s0 s1 s2 HR HQ0 U9
      obtain ⟨d0, d1, d2, d3, d4, d5, d6, d7, d8⟩ := B9.c9
      have T0 := Tl.start Q9.own
      go_wp2_with fail
      refine (qPutText_any K _ BS S _ Q9.own Q9.sz (by have := HL.out; show _ ≤ 1000000; omega) HSS.out).mono ?_
      rintro e w7 ⟨v7, rfl, T'⟩
      have T1 := T0.trans T'
      have z1 := Nat.le_trans Q9.sz T1.old.size
      have l1 : Hid ((BS ++ bl 2 S.size ++ Sb S).length ≤ 600000) := by show _ ≤ _; rw [List.length_append, List.length_append, bl_length, Sb_len]; have := HL.out; have := HSS.out; omega
      replace B9 := T1.box HB9.out hno.out
      clear d0 d1 d2 d3 d4 d5 d6 d7 d8 T' T0 Q9
      obtain ⟨d0, d1, d2, d3, d4, d5, d6, d7, d8⟩ := B9.c9
      rcases hform with ⟨rfl, rfl, rfl, rfl, rfl⟩ | ⟨rfl, rfl, rfl, rfl⟩
      · go_wp2_with fail
        refine (qPutPolicy_1 K _ _ pg ps 0 0 _ T1.own z1 (by have := l1.out; show _ ≤ 1000000; omega) H6.out.1 H6.out.2.1).mono ?_
        rintro e w8 ⟨v8, rfl, T'⟩
        have T2 := T1.trans T'
        have z2 := Nat.le_trans z1 T'.old.size
        have l2 : Hid ((BS ++ bl 2 S.size ++ Sb S ++ (bl 1 1 ++ (bl 8 pg ++ bl 8 ps))).length ≤ 700000) := by show _ ≤ _; have h := l1.out; simp only [List.length_append, bl_length] at h ⊢; omega
        replace B9 := T2.box HB9.out hno.out
        clear d0 d1 d2 d3 d4 d5 d6 d7 d8 T' T1
        obtain ⟨d0, d1, d2, d3, d4, d5, d6, d7, d8⟩ := B9.c9
        go_wp2_with fail
        refine (qPut_any K _ _ lt 8 _ T2.own z2 (by have := l2.out; omega) (by omega) H6.out.2.2.2.2.1).mono ?_
        rintro e wa ⟨va, rfl, T'⟩
        have T3 := T2.trans T'
        have HS : Hid (QE w wa w.heap.size K l f N (some ⟨b, o, none⟩) cap va (hedB l f N ++ keysB (xs.take (i + 1)))) := by
          show QE _ _ _ _ _ _ _ _ _ _ _
          have := HQ9.out.next T3
          rw [← HK.out]
          simpa [entB, numsOf, numsB] using this
        clear d0 d1 d2 d3 d4 d5 d6 d7 d8 T' T2 T3 B9
        go_wp2
        go_roundg (N - (i + 1))
        case measure => have := HD.out; omega
        case rel => exact ⟨i + 1, HD.out, rfl, by go_num, HS⟩
      · go_wp2_with fail
        refine (qPutPolicy_2 K _ _ 0 0 pq pp _ T1.own z1 (by have := l1.out; show _ ≤ 1000000; omega) H6.out.2.2.1 H6.out.2.2.2.1).mono ?_
        rintro e w8 ⟨v8, rfl, T'⟩
        have T2 := T1.trans T'
        have z2 := Nat.le_trans z1 T'.old.size
        have l2 : Hid ((BS ++ bl 2 S.size ++ Sb S ++ (bl 1 2 ++ (bl 8 pq ++ bl 8 pp))).length ≤ 700000) := by show _ ≤ _; have h := l1.out; simp only [List.length_append, bl_length] at h ⊢; omega
        replace B9 := T2.box HB9.out hno.out
        clear d0 d1 d2 d3 d4 d5 d6 d7 d8 T' T1
        obtain ⟨d0, d1, d2, d3, d4, d5, d6, d7, d8⟩ := B9.c9
        go_wp2_with fail
        refine (qPut_any K _ _ li 8 _ T2.own z2 (by have := l2.out; omega) (by omega) H6.out.2.2.2.2.2.1).mono ?_
        rintro e wa ⟨va, rfl, T'⟩
        have T3 := T2.trans T'
        have z3 := Nat.le_trans z2 T'.old.size
        have l3 : Hid ((BS ++ bl 2 S.size ++ Sb S ++ (bl 1 2 ++ (bl 8 pq ++ bl 8 pp)) ++ bl 8 li).length ≤ 800000) := by show _ ≤ _; rw [List.length_append, bl_length]; have := l2.out; omega
        replace B9 := T3.box HB9.out hno.out
        clear d0 d1 d2 d3 d4 d5 d6 d7 d8 T' T2
        obtain ⟨d0, d1, d2, d3, d4, d5, d6, d7, d8⟩ := B9.c9
        go_wp2_with fail
        refine (qPut_any K _ _ lc 8 _ T3.own z3 (by have := l3.out; omega) (by omega) H6.out.2.2.2.2.2.2).mono ?_
        rintro e wb ⟨vb, rfl, T'⟩
        have T4 := T3.trans T'
        have HS : Hid (QE w wb w.heap.size K l f N (some ⟨b, o, none⟩) cap vb (hedB l f N ++ keysB (xs.take (i + 1)))) := by
          show QE _ _ _ _ _ _ _ _ _ _ _
          have := HQ9.out.next T4
          rw [← HK.out]
          simpa [entB, numsOf, numsB] using this
        clear d0 d1 d2 d3 d4 d5 d6 d7 d8 T' T3 T4 B9
        go_wp2
        go_roundg (N - (i + 1))
        case measure => have := HD.out; omega
        case rel => exact ⟨i + 1, HD.out, rfl, by go_num, HS⟩
    · obtain rfl : i = N := by omega
      have QF := HR.out
      have HL := HKL.out i (by omega)
      rw [List.take_of_length_le (by rw [HN.out]; exact Nat.le_refl _)] at QF HL
      have HL' : Hid ((hedB l f i ++ keysB xs).length ≤ 500000) := HL
      clear HL HKL HX HE HR
      generalize hedB l f i ++ keysB xs = BS at QF HL' HI
      have hSc := refSum_any 0 _ BS wr (own_z QF.own) (by have := HL'.out; omega)
      go_wp2_with fail
      refine hSc.mono ?_
      rintro e w6 ⟨rfl, rfl⟩
      go_wp2_with fail
      refine (qPut_any K _ BS (sumC BS).toNat 4 _ QF.own QF.sz (by have := HL'.out; omega) (by omega) (by have := (sumC BS).isLt; omega)).mono ?_
      rintro e w7 ⟨v7, rfl, T7⟩
      have QG := QF.next T7
      have o7 := QG.own
      rw [← HI.out] at o7
      go_wp2
      go_ret2
      exact ⟨_, rfl, own_low o7 (by have := QG.lt; have := QG.le; omega), QG.up⟩
end Go.Proofs.YtooclofdljampaaDoor

set_option linter.unusedVariables false
set_option linter.unusedSimpArgs false
namespace Go.Proofs.YtooclofdljampaaDoor
open Go Go.RowKit

theorem wpList_pushE {ops : Array Oper} {rest : List Oper} {o : Oper} {a : Act} {Q : Exit → Act → World → Prop} (w : World) (hgd : o.guard = none) (s x : Operand)
    (ho : o.op = .call { callee := .builtin .append, args := #[s, x], argTypes := #[27, 27] }) (base nb : Nat) (v : Value) (xs : List Ent) (y : Ent) (hs : a.eval s = v)
    (hx : a.eval x = .slice (some ⟨nb, 0, none⟩) 1 1) (how : OwnE w base v xs) (hb : Box w nb (EC y).toArray) (hbase : base ≤ w.heap.size) (hl : xs.length ≤ 1000000)
    (hK : ∀ v' w', OwnE w' base v' (xs ++ [y]) → w.grownBy w' v.ownBlock → wpList Tryd.prog ops Q rest (a.put o.dst v') w') :
    wpList Tryd.prog ops Q (o :: rest) a w :=
  wpList_plain hgd fun _ h => wp_pushE w s x ho base nb v xs y hs hx how hb hbase hl (fun v' w' o' g' => h _ _ (hK v' w' o' g'))
/-- What the reference's Decode answers. -/
def QdP (base : Nat) (w' : World) (e : Ending) : Except ImE StV → Prop
  | .error .short => e = .returned (.tuple #[S0, .int .i64 2])
  | .error .form => e = .returned (.tuple #[S0, .int .i64 3])
  | .error .sum => e = .returned (.tuple #[S0, .int .i64 5])
  | .ok s => ∃ vk, e = .returned (.tuple #[.agg #[V s.lsn, V s.floor, vk], .int .i64 0]) ∧ OwnE w' base vk s.keys

set_option maxRecDepth 20000 in
theorem qiDecode_short (base : Nat) (v : Value) (bs : List UInt8) (w : World) (hs : Sl base w v bs) (hl : bs.length < 28) :
    Calls Tryd.prog 23 #[v] w fun e w' => e = .returned (.tuple #[S0, .int .i64 2]) ∧ Up w w' := by
  obtain ⟨ao, cap, rfl, _⟩ := hs
  generalize bs.length = N at hl ⊢
  have h1 : (N : Int) < 28 := by omega
  have b0 : Box (w.alloc (.cells #[V 0, V 0, .slice none 0 0] 29)) w.heap.size #[V 0, V 0, .slice none 0 0] := Box.new _ _ _
  have u0 : Up w (w.alloc (.cells #[V 0, V 0, .slice none 0 0] 29)) := Up.alloc _ _
  go_enter Tryd.func23, Tryd.ntmps23
  go_upto_region 1 with fail
  generalize w.alloc (.cells #[V 0, V 0, .slice none 0 0] 29) = w0 at *
  obtain ⟨c0, c1, c2⟩ := b0.c3
  have f0 := b0.frozen
  obtain ⟨wf, hwf, bz, uz⟩ : ∃ wf, wf = ((w0.setCell ⟨w.heap.size, 0, none⟩ (V 0)).setCell ⟨w.heap.size, 1, none⟩ (V 0)).setCell ⟨w.heap.size, 2, none⟩ (.slice none 0 0) ∧ Box wf w.heap.size #[V 0, V 0, .slice none 0 0] ∧ Up w wf := ⟨_, rfl, b0.set3, ((Below.setCell u0 (p := ⟨w.heap.size, 0, none⟩) (Nat.le_refl _) (V 0)).setCell (p := ⟨w.heap.size, 1, none⟩) (Nat.le_refl _) (V 0)).setCell (p := ⟨w.heap.size, 2, none⟩) (Nat.le_refl _) (.slice none 0 0)⟩
  go_wp2
  generalize hq : World.setCell _ _ _ = wq
  obtain rfl : wq = wf := hq.symm.trans hwf.symm
  clear hq hwf c0 c1 c2 f0
  obtain ⟨c0, c1, c2⟩ := bz.c3
  exact bodyPost_ret (v := .tuple #[S0, .int .i64 2]) (by simp [results, Tryd.results23, go_sem, c0, c1, c2]) rfl ⟨rfl, uz⟩

set_option maxRecDepth 20000 in
set_option maxHeartbeats 1600000 in
theorem qiDecode_mark (base : Nat) (v : Value) (bs : List UInt8) (w : World) (hs : Sl base w v bs) (hl : 28 ≤ bs.length) (hm : bs.take 4 ≠ mrk) :
    Calls Tryd.prog 23 #[v] w fun e w' => e = .returned (.tuple #[S0, .int .i64 3]) ∧ Up w w' := by
  obtain ⟨ao, cap, rfl, _, _, hx⟩ := hs
  obtain ⟨b, o, rfl, _, ha⟩ := hx (by rintro rfl; simp at hl)
  have a0 := ha 0 (by omega)
  have a1 := ha 1 (by omega)
  have a2 := ha 2 (by omega)
  have a3 := ha 3 (by omega)
  rw [Nat.add_zero] at a0
  have hor : (((bs[0]'(by omega)).toNat : Int) != 84) = true ∨ (((bs[1]'(by omega)).toNat : Int) != 73) = true ∨ (((bs[2]'(by omega)).toNat : Int) != 48) = true ∨ (((bs[3]'(by omega)).toNat : Int) != 49) = true := by
    refine Classical.byContradiction fun hn => hm ?_
    simp only [not_or, Bool.not_eq_true, bne_eq_false_iff_eq] at hn
    obtain ⟨e0, e1, e2, e3⟩ := hn
    match bs, hl, e0, e1, e2, e3 with
    | x0 :: x1 :: x2 :: x3 :: r, _, e0, e1, e2, e3 =>
      simp only [List.getElem_cons_zero, List.getElem_cons_succ] at e0 e1 e2 e3
      have f0 : x0 = 84 := UInt8.toNat_inj.1 (by simp; omega)
      have f1 : x1 = 73 := UInt8.toNat_inj.1 (by simp; omega)
      have f2 : x2 = 48 := UInt8.toNat_inj.1 (by simp; omega)
      have f3 : x3 = 49 := UInt8.toNat_inj.1 (by simp; omega)
      subst f0 f1 f2 f3
      rfl
  have l0 := (bs[0]'(by omega)).toNat_lt
  have l1 := (bs[1]'(by omega)).toNat_lt
  have l2 := (bs[2]'(by omega)).toNat_lt
  have l3 := (bs[3]'(by omega)).toNat_lt
  simp only [B] at a0 a1 a2 a3
  generalize (bs[0]'(by omega)).toNat = x0 at *
  generalize (bs[1]'(by omega)).toNat = x1 at *
  generalize (bs[2]'(by omega)).toNat = x2 at *
  generalize (bs[3]'(by omega)).toNat = x3 at *
  clear ha hx hm
  generalize bs.length = N at hl ⊢
  have h1 : ¬ (N : Int) < 28 := by omega
  have hN0 : (28 : Int) ≤ (N : Int) := by omega
  have b0 : Box (w.alloc (.cells #[V 0, V 0, .slice none 0 0] 29)) w.heap.size #[V 0, V 0, .slice none 0 0] := Box.new _ _ _
  have u0 : Up w (w.alloc (.cells #[V 0, V 0, .slice none 0 0] 29)) := Up.alloc _ _
  have c : ∀ a v, w.cell? a = some v → (w.alloc (.cells #[V 0, V 0, .slice none 0 0] 29)).cell? a = some v := fun a v e => (u0.cell (World.block_lt_of_cell? w _ e)).trans e
  replace a0 := c _ _ a0
  replace a1 := c _ _ a1
  replace a2 := c _ _ a2
  replace a3 := c _ _ a3
  clear c
  go_enter Tryd.func23, Tryd.ntmps23
  go_upto_region 1 with fail
  generalize w.alloc (.cells #[V 0, V 0, .slice none 0 0] 29) = w0 at *
  obtain ⟨q0, e0⟩ : ∃ q, ((x0 : Int) != 84) = q := ⟨_, rfl⟩
  obtain ⟨q1, e1⟩ : ∃ q, ((x1 : Int) != 73) = q := ⟨_, rfl⟩
  obtain ⟨q2, e2⟩ : ∃ q, ((x2 : Int) != 48) = q := ⟨_, rfl⟩
  obtain ⟨q3, e3⟩ : ∃ q, ((x3 : Int) != 49) = q := ⟨_, rfl⟩
  rw [e0, e1, e2, e3] at hor
  cases q0 with
  | true =>
    clear hor
    obtain ⟨c0, c1, c2⟩ := b0.c3
    have f0 := b0.frozen
    obtain ⟨wf, hwf, bz, uz⟩ : ∃ wf, wf = ((w0.setCell ⟨w.heap.size, 0, none⟩ (V 0)).setCell ⟨w.heap.size, 1, none⟩ (V 0)).setCell ⟨w.heap.size, 2, none⟩ (.slice none 0 0) ∧ Box wf w.heap.size #[V 0, V 0, .slice none 0 0] ∧ Up w wf := ⟨_, rfl, b0.set3, ((Below.setCell u0 (p := ⟨w.heap.size, 0, none⟩) (Nat.le_refl _) (V 0)).setCell (p := ⟨w.heap.size, 1, none⟩) (Nat.le_refl _) (V 0)).setCell (p := ⟨w.heap.size, 2, none⟩) (Nat.le_refl _) (.slice none 0 0)⟩
    go_wp2
    generalize hq : World.setCell _ _ _ = wq
    obtain rfl : wq = wf := hq.symm.trans hwf.symm
    clear hq hwf c0 c1 c2 f0
    obtain ⟨c0, c1, c2⟩ := bz.c3
    exact bodyPost_ret (v := .tuple #[S0, .int .i64 3]) (by simp [results, Tryd.results23, go_sem, c0, c1, c2]) rfl ⟨rfl, uz⟩
  | false =>
    cases q1 with
    | true =>
      clear hor
      obtain ⟨c0, c1, c2⟩ := b0.c3
      have f0 := b0.frozen
      obtain ⟨wf, hwf, bz, uz⟩ : ∃ wf, wf = ((w0.setCell ⟨w.heap.size, 0, none⟩ (V 0)).setCell ⟨w.heap.size, 1, none⟩ (V 0)).setCell ⟨w.heap.size, 2, none⟩ (.slice none 0 0) ∧ Box wf w.heap.size #[V 0, V 0, .slice none 0 0] ∧ Up w wf := ⟨_, rfl, b0.set3, ((Below.setCell u0 (p := ⟨w.heap.size, 0, none⟩) (Nat.le_refl _) (V 0)).setCell (p := ⟨w.heap.size, 1, none⟩) (Nat.le_refl _) (V 0)).setCell (p := ⟨w.heap.size, 2, none⟩) (Nat.le_refl _) (.slice none 0 0)⟩
      go_wp2
      generalize hq : World.setCell _ _ _ = wq
      obtain rfl : wq = wf := hq.symm.trans hwf.symm
      clear hq hwf c0 c1 c2 f0
      obtain ⟨c0, c1, c2⟩ := bz.c3
      exact bodyPost_ret (v := .tuple #[S0, .int .i64 3]) (by simp [results, Tryd.results23, go_sem, c0, c1, c2]) rfl ⟨rfl, uz⟩
    | false =>
      cases q2 with
      | true =>
        clear hor
        obtain ⟨c0, c1, c2⟩ := b0.c3
        have f0 := b0.frozen
        obtain ⟨wf, hwf, bz, uz⟩ : ∃ wf, wf = ((w0.setCell ⟨w.heap.size, 0, none⟩ (V 0)).setCell ⟨w.heap.size, 1, none⟩ (V 0)).setCell ⟨w.heap.size, 2, none⟩ (.slice none 0 0) ∧ Box wf w.heap.size #[V 0, V 0, .slice none 0 0] ∧ Up w wf := ⟨_, rfl, b0.set3, ((Below.setCell u0 (p := ⟨w.heap.size, 0, none⟩) (Nat.le_refl _) (V 0)).setCell (p := ⟨w.heap.size, 1, none⟩) (Nat.le_refl _) (V 0)).setCell (p := ⟨w.heap.size, 2, none⟩) (Nat.le_refl _) (.slice none 0 0)⟩
        go_wp2
        generalize hq : World.setCell _ _ _ = wq
        obtain rfl : wq = wf := hq.symm.trans hwf.symm
        clear hq hwf c0 c1 c2 f0
        obtain ⟨c0, c1, c2⟩ := bz.c3
        exact bodyPost_ret (v := .tuple #[S0, .int .i64 3]) (by simp [results, Tryd.results23, go_sem, c0, c1, c2]) rfl ⟨rfl, uz⟩
      | false =>
        obtain rfl : q3 = true := by simpa using hor
        clear hor
        obtain ⟨c0, c1, c2⟩ := b0.c3
        have f0 := b0.frozen
        obtain ⟨wf, hwf, bz, uz⟩ : ∃ wf, wf = ((w0.setCell ⟨w.heap.size, 0, none⟩ (V 0)).setCell ⟨w.heap.size, 1, none⟩ (V 0)).setCell ⟨w.heap.size, 2, none⟩ (.slice none 0 0) ∧ Box wf w.heap.size #[V 0, V 0, .slice none 0 0] ∧ Up w wf := ⟨_, rfl, b0.set3, ((Below.setCell u0 (p := ⟨w.heap.size, 0, none⟩) (Nat.le_refl _) (V 0)).setCell (p := ⟨w.heap.size, 1, none⟩) (Nat.le_refl _) (V 0)).setCell (p := ⟨w.heap.size, 2, none⟩) (Nat.le_refl _) (.slice none 0 0)⟩
        go_wp2
        generalize hq : World.setCell _ _ _ = wq
        obtain rfl : wq = wf := hq.symm.trans hwf.symm
        clear hq hwf c0 c1 c2 f0
        obtain ⟨c0, c1, c2⟩ := bz.c3
        exact bodyPost_ret (v := .tuple #[S0, .int .i64 3]) (by simp [results, Tryd.results23, go_sem, c0, c1, c2]) rfl ⟨rfl, uz⟩

/-- What the loop keeps. -/
structure Td (w0 w : World) (r : Nat) (v : Value) (b rest : List UInt8) (k l f : Nat) (vk : Value) (es : List Ent) : Prop where
  cut : CutS w r v b (some rest)
  up : Up w0 w
  out : Box w w0.heap.size #[V 0, V 0, .slice none 0 0]
  bx : Box w k #[V l, V f, vk]
  own : OwnE w (r + 1) vk es
  nk : k ∉ ob vk
  lk : r < k
  lr : w0.heap.size < r
theorem Td.read {w0 w w' : World} {r : Nat} {v : Value} {b rest rest' : List UInt8} {k l f : Nat} {vk : Value} {es : List Ent} (h : Td w0 w r v b rest k l f vk es) (hr : CutS w' r v b (some rest')) (hb : But r w w') : Td w0 w' r v b rest' k l f vk es := by
  have h1 := h.lk
  have h2 := h.lr
  refine ⟨hr, hb.upI h.up (by omega), h.out.but hb (by omega), h.bx.but hb (by omega), h.own.kept (Touch.of_grown hb (S := [r]) (fun j e => by cases e; simp)) (fun j hj => ?_), h.nk, h1, h2⟩
  have := (h.own.ge j hj).1
  simp only [List.mem_singleton]
  omega
theorem Td.alloc {w0 w w' : World} {r : Nat} {v : Value} {b rest : List UInt8} {k l f : Nat} {vk : Value} {es : List Ent} (h : Td w0 w r v b rest k l f vk es) (u : Up w w') : Td w0 w' r v b rest k l f vk es :=
  ⟨h.cut.up u, h.up.trans u, h.out.up u, h.bx.up u, h.own.up u, h.nk, h.lk, h.lr⟩
theorem nk_of {w : World} {base k : Nat} {v a b c : Value} {es : List Ent} (o : OwnE w base v es) (hb : Box w k #[a, b, c]) : k ∉ ob v := fun hm => by
  rcases o.parts with ⟨rfl, _⟩ | ⟨g, cap, cur, rfl, _, _, hg, _, _, hcs, _⟩
  · simp [ob, Value.ownBlock] at hm
  · have e : k = g := by simpa [ob, Value.ownBlock] using hm
    subst e
    obtain ⟨t, ht⟩ := hb
    rw [ht] at hg
    simp only [Option.some.injEq, Obj.cells.injEq] at hg
    obtain ⟨rfl, _⟩ := hg
    simp at hcs
    omega
theorem Td.set {w0 w : World} {r : Nat} {v : Value} {b rest : List UInt8} {k l f : Nat} {vk : Value} {es : List Ent} (h : Td w0 w r v b rest k l f vk es) (i : Nat) (x : Value) {l' f' : Nat} (e : (#[V l, V f, vk] : Array Value).setIfInBounds i x = #[V l', V f', vk]) : Td w0 (w.setCell ⟨k, i, none⟩ x) r v b rest k l' f' vk es := by
  have h1 := h.lk
  have h2 := h.lr
  have h3 := h.up.size
  refine ⟨h.cut.otherI h1 i x, Below.setCell h.up (p := ⟨k, i, none⟩) (by show w0.heap.size ≤ k; omega) x, h.out.other (by omega) i x, by have := h.bx.set i x; rwa [e] at this, h.own.kept (Touch.setCell (Touch.refl w [k]) (.inl (by simp)) i x) (fun j hj => by simp only [List.mem_singleton]; rintro rfl; exact h.nk hj), h.nk, h1, h2⟩
theorem Td.grow {w0 w w1 : World} {r : Nat} {v : Value} {b rest : List UInt8} {k l f : Nat} {vk v1 : Value} {es ys : List Ent} (h : Td w0 w r v b rest k l f vk es) (g : w.grownBy w1 vk.ownBlock) (o : OwnE w1 (r + 1) v1 ys) :
    Box w1 k #[V l, V f, vk] ∧ Td w0 (w1.setCell ⟨k, 2, none⟩ v1) r v b rest k l f v1 ys := by
  have h1 := h.lk
  have h2 := h.lr
  have t : Touch w w1 (ob vk) := Touch.of_grown g (fun j e => mem_ob.2 e)
  have hge : ∀ j ∈ ob vk, r + 1 ≤ j := fun j hj => (h.own.ge j hj).1
  have b1 : Box w1 k #[V l, V f, vk] := Touch.box h.bx t h.nk
  have o1 : Box w1 w0.heap.size #[V 0, V 0, .slice none 0 0] := Touch.box h.out t (fun hm => by have := hge _ hm; omega)
  have hz := h.up.size
  have hU : Up w0 w1 := Below.trans h.up (t.below (fun j hj => by have := hge j hj; omega) hz)
  have hnk := nk_of o b1
  have hc : CutS w1 r v b (some rest) := by
    obtain ⟨⟨a, s, hb, hc1, hc2⟩, hs⟩ := h.cut
    refine ⟨⟨a, s, Touch.box hb t (fun hm => by have := hge _ hm; omega), hc1, hc2⟩, ?_⟩
    obtain ⟨ao, cap, rfl, h3, h4, hx⟩ := hs
    refine ⟨ao, cap, rfl, h3, h4, fun hne => ?_⟩
    obtain ⟨bb, o, rfl, hlt, ha⟩ := hx hne
    refine ⟨bb, o, rfl, hlt, Touch.at ha t (fun _ hm => by have := hge _ hm; omega)⟩
  refine ⟨b1, hc.otherI h1 2 v1, Below.setCell hU (p := ⟨k, 2, none⟩) (by show w0.heap.size ≤ k; omega) v1, o1.other (by omega) 2 v1, b1.set 2 v1, ?_, hnk, h1, h2⟩
  exact o.kept (Touch.setCell (Touch.refl w1 [k]) (.inl (by simp)) 2 v1) (fun j hj => by simp only [List.mem_singleton]; rintro rfl; exact hnk hj)
theorem CutS.at_ {w : World} {r : Nat} {v : Value} {b rest : List UInt8} (h : CutS w r v b (some rest)) : ∃ a : Nat, w.cell? ⟨r, 1, none⟩ = some (.int .i64 (a : Int)) ∧ a ≤ b.length ∧ rest = b.drop a := by
  obtain ⟨⟨a, s, hb, h1, h2⟩, hs⟩ := h
  cases s with
  | true => cases h2
  | false => exact ⟨a, hb.cell 1, h1, (Option.some.inj h2)⟩

set_option maxRecDepth 20000 in
set_option maxHeartbeats 12800000 in
theorem qiDecode_main (base : Nat) (v : Value) (bs : List UInt8) (w : World) (q : Bool) (hs : Sl base w v bs) (hl : 28 ≤ bs.length) (hm : bs.take 4 = mrk) (hlt : bs.length ≤ 140737488351232) (hsum : ((lb (bs.drop (bs.length - 4)) : Int) != ((sumC (bs.take (bs.length - 4))).toNat : Int)) = q) (Z : Except ImE StV) (hZ0 : (if q = true then .error .sum else innD ((bs.take (bs.length - 4)).drop 4)) = Z) :
    Calls Tryd.prog 23 #[v] w fun e w' => QdP w.heap.size w' e Z ∧ Up w w' := by
  have a0 : bs[0]? = some 84 := by rw [← List.getElem?_take_of_lt (show 0 < 4 by omega), hm]; rfl
  have a1 : bs[1]? = some 73 := by rw [← List.getElem?_take_of_lt (show 1 < 4 by omega), hm]; rfl
  have a2 : bs[2]? = some 48 := by rw [← List.getElem?_take_of_lt (show 2 < 4 by omega), hm]; rfl
  have a3 : bs[3]? = some 49 := by rw [← List.getElem?_take_of_lt (show 3 < 4 by omega), hm]; rfl
  obtain ⟨E, hE⟩ : ∃ E, bs.length = E + 4 := ⟨bs.length - 4, by omega⟩
  have hE4 : bs.length - 4 = E := by omega
  obtain ⟨v6, s6, _, r6, _⟩ := sl_cut hs 0 E (by omega) (by omega)
  replace r6 := r6 rfl
  have e6 : (bs.drop 0).take (E - 0) = bs.take E := by rw [List.drop_zero, Nat.sub_zero]
  rw [e6] at s6
  rw [hE4] at hsum hZ0
  have hdE : (bs.drop E).length = 4 := by rw [List.length_drop]; omega
  have hrd := rdA_take 4 (bs.drop E) (by omega)
  rw [List.take_of_length_le (by omega)] at hrd
  have htE : (bs.take E).length = E := by rw [List.length_take]; omega
  have HSm : Hid (∀ u, Up w u → Calls Tryd.prog 37 #[v6] u fun e w' => e = .returned (U (sumC (bs.take E))) ∧ w' = u) := fun u k => refSum_any base v6 (bs.take E) u (s6.up k) (by omega)
  have HP : Hid (∀ r u, Up w u → w.heap.size ≤ r → SlP (fun b => b < r) u v bs ∧ SlP (fun b => b < r) u v6 (bs.take E)) := by
    have gen : ∀ (x : Value) (cs : List UInt8), Sl base w x cs → ∀ r u, Up w u → w.heap.size ≤ r → SlP (fun b => b < r) u x cs := fun x cs h r u k hr => by
      obtain ⟨ao, cap, rfl, h3, h4, hx⟩ := h
      refine ⟨ao, cap, rfl, h3, h4, fun hne => ?_⟩
      obtain ⟨b, o, rfl, _, ha⟩ := hx hne
      exact ⟨b, o, rfl, Nat.lt_of_lt_of_le (ha.lt hne) hr, ha.up k⟩
    exact fun r u k hr => ⟨gen _ _ hs r u k hr, gen _ _ s6 r u k hr⟩
  obtain ⟨ZS, hZ⟩ : ∃ ZS, sumC (bs.take E) = ZS := ⟨_, rfl⟩
  obtain ⟨LB, hLB⟩ : ∃ LB, lb (bs.drop E) = LB := ⟨_, rfl⟩
  rw [hZ, hLB] at hsum
  rw [hLB] at hrd
  rw [hZ] at HSm
  have HRD : Hid (rdA 4 (some (bs.drop E)) = (LB, some ((bs.drop E).drop 4))) := hrd
  obtain ⟨HD, hHD⟩ : ∃ HD, bs.take E = HD := ⟨_, rfl⟩
  rw [hHD] at htE HP hZ0
  have HH : Hid (HD.length = E ∧ 24 ≤ E ∧ E + 4 ≤ 140737488351232) := ⟨htE, by omega, by omega⟩
  have HBS : Hid (bs.length = E + 4) := hE
  obtain ⟨ao, cap, rfl, _, _, hx⟩ := hs
  obtain ⟨b, o, rfl, _, ha⟩ := hx (by rintro rfl; simp at hl)
  have hcell : ∀ i (x : UInt8), bs[i]? = some x → w.cell? ⟨b, o + i, none⟩ = some (B x) := fun i x h => by
    obtain ⟨hi, rfl⟩ := List.getElem?_eq_some_iff.1 h
    exact ha i hi
  have c0 : w.cell? ⟨b, o, none⟩ = some (.int .u8 84) := hcell 0 84 a0
  have c1 : w.cell? ⟨b, o + 1, none⟩ = some (.int .u8 73) := hcell 1 73 a1
  have c2 : w.cell? ⟨b, o + 2, none⟩ = some (.int .u8 48) := hcell 2 48 a2
  have c3 : w.cell? ⟨b, o + 3, none⟩ = some (.int .u8 49) := hcell 3 49 a3
  rw [hE] at r6 HP ⊢
  obtain ⟨a6, n6, k6, rfl⟩ : ∃ a n c, v6 = .slice a n c := by obtain ⟨ao, c, e, _⟩ := s6; exact ⟨_, _, _, e⟩
  have h1 : ¬ ((E : Int) + 4 < 28) := by omega
  have h2 : (E : Int) ≤ 140737488351232 := by omega
  have g1 : (24 : Int) ≤ (E : Int) := by omega
  have wE : IntKind.i64.wrap (E : Int) = (E : Int) := by have := IntKind.wrap_i64 (E : Int); omega
  have wZ : IntKind.u64.wrap (ZS.toNat : Int) = (ZS.toNat : Int) := by have := IntKind.wrap_u64 (ZS.toNat : Int); have := ZS.isLt; omega
  have b0 : Box (w.alloc (.cells #[V 0, V 0, .slice none 0 0] 29)) w.heap.size #[V 0, V 0, .slice none 0 0] := Box.new _ _ _
  have u0 : Up w (w.alloc (.cells #[V 0, V 0, .slice none 0 0] 29)) := Up.alloc _ _
  have c : ∀ a v, w.cell? a = some v → (w.alloc (.cells #[V 0, V 0, .slice none 0 0] 29)).cell? a = some v := fun a v e => (u0.cell (World.block_lt_of_cell? w _ e)).trans e
  replace c0 := c _ _ c0
  replace c1 := c _ _ c1
  replace c2 := c _ _ c2
  replace c3 := c _ _ c3
  clear c hcell ha hx a0 a1 a2 a3 hm hlt hl hE hE4 s6 e6 hdE hrd htE hZ hLB hHD
  go_enter Tryd.func23, Tryd.ntmps23
  go_upto_region 1 with fail
  generalize w.alloc (.cells #[V 0, V 0, .slice none 0 0] 29) = w0 at *
  have bL : Box (w0.alloc (.cells #[.slice (some ⟨b, o, none⟩) (E + 4) cap, .int .i64 (E : Int), .bool false] 77)) w0.heap.size #[.slice (some ⟨b, o, none⟩) (E + 4) cap, .int .i64 (E : Int), .bool false] := Box.new _ _ _
  have uL : Up w0 (w0.alloc (.cells #[.slice (some ⟨b, o, none⟩) (E + 4) cap, .int .i64 (E : Int), .bool false] 77)) := Up.alloc _ _
  have hz0 := b0.lt
  go_upto_region 6 with fail
  generalize w0.alloc (.cells #[.slice (some ⟨b, o, none⟩) (E + 4) cap, .int .i64 (E : Int), .bool false] 77) = w1 at *
  generalize w0.heap.size = k1 at *
  replace b0 := b0.up uL
  replace u0 := u0.trans uL
  clear c0 c1 c2 c3 uL
  have C1 : CutS w1 k1 (.slice (some ⟨b, o, none⟩) (E + 4) cap) bs (some (bs.drop E)) := ⟨⟨E, false, bL, by have := HBS.out; omega, rfl⟩, (HP.out k1 w1 u0 (by omega)).1⟩
  have hnum := fun u (k : Up w1 u) => qNumber_S (C1.up k) (by have := HBS.out; have := HH.out; omega) 4 (by omega) (by omega)
  rw [HRD.out] at hnum
  have HNum : Hid (∀ u, Up w1 u → Calls Tryd.prog 39 #[.pointer (some ⟨k1, 0, none⟩), .int .i64 4] u fun e w' => e = .returned (V LB) ∧ But k1 u w') := fun u k => (hnum u k).mono (by rintro e w' ⟨rfl, _, g⟩; exact ⟨rfl, g⟩)
  clear hnum C1 bL
  go_cut [54] (fun x wx => x = .bool q ∧ Hid (Up w wx ∧ Box wx w.heap.size #[V 0, V 0, .slice none 0 0]))
  case first =>
    have UD : Up w1 w1.drew := Up.drew w1
    refine wp_region_held_drew (S := fun _ => True) (by kernel_rfl) trivial (fun hs0 => ?_)
    clear hs0
    generalize w1.drew = wd at *
    refine take_to (some 45) (i := 0) (v := .pointer (some ⟨k1, 0, none⟩)) rfl rfl (by kernel_rfl) (by kernel_rfl) (by kernel_rfl) (fun _ _ _ h => h) (Or.inl ⟨by kernel_rfl, by intro u hSu; go_simp⟩) trivial ?_
    simp only [Act.put, List.setIfInBounds_toArray, List.set_cons_zero, List.set_cons_succ]
    refine take_to (some 47) (i := 2) (v := .slice (some ⟨b, o, none⟩) (E + 4) cap) rfl rfl (by kernel_rfl) (by kernel_rfl) (by kernel_rfl) (fun _ _ _ h => h) (Or.inl ⟨by kernel_rfl, by intro u hSu; go_simp⟩) trivial ?_
    simp only [Act.put, List.setIfInBounds_toArray, List.set_cons_zero, List.set_cons_succ]
    refine take_to (some 48) (i := 3) (v := .slice (some ⟨b, o, none⟩) (E + 4) cap) rfl rfl (by kernel_rfl) (by kernel_rfl) (by kernel_rfl) (fun _ _ _ h => h) (Or.inl ⟨by kernel_rfl, by intro u hSu; go_simp⟩) trivial ?_
    simp only [Act.put, List.setIfInBounds_toArray, List.set_cons_zero, List.set_cons_succ]
    refine take_to (some 49) (i := 4) (v := .int .i64 ((E : Int) + 4)) rfl rfl (by kernel_rfl) (by kernel_rfl) (by kernel_rfl) (fun _ _ _ h => h) (Or.inl ⟨by kernel_rfl, by intro u hSu; go_simp⟩) trivial ?_
    simp only [Act.put, List.setIfInBounds_toArray, List.set_cons_zero, List.set_cons_succ]
    refine take_to (some 50) (i := 5) (v := .int .i64 (E : Int)) rfl rfl (by kernel_rfl) (by kernel_rfl) (by kernel_rfl) (fun _ _ _ h => h) (Or.inl ⟨by kernel_rfl, by intro u hSu; go_simp⟩) trivial ?_
    simp only [Act.put, List.setIfInBounds_toArray, List.set_cons_zero, List.set_cons_succ]
    refine take_to (some 51) (i := 6) (v := .slice a6 n6 k6) rfl rfl (by kernel_rfl) (by kernel_rfl) (by kernel_rfl) (fun _ _ _ h => h) (Or.inl ⟨by kernel_rfl, by intro u hSu; go_simp⟩) trivial ?_
    simp only [Act.put, List.setIfInBounds_toArray, List.set_cons_zero, List.set_cons_succ]
    refine wpAnyH_ready (rs := [1]) (by kernel_rfl) (by simp) ?_
    refine AllReadyH.cons rfl (fun K hK => ?_) AllReadyH.nil
    go_simp
    refine (HNum.out _ UD).mono ?_
    rintro e w9 ⟨rfl, g9⟩
    have UX : Up w w9 := g9.upI (u0.trans UD) (by omega)
    have bX := (b0.up UD).but g9 (by omega)
    refine hK.out _ _ trivial (fun _ => ?_)
    clear hK K
    refine wpAnyH_ready (rs := [7]) (by kernel_rfl) (by simp) ?_
    refine AllReadyH.cons rfl (fun K hK => ?_) AllReadyH.nil
    go_simp
    refine (HSm.out _ UX).mono ?_
    rintro e w10 ⟨rfl, rfl⟩
    refine hK.out _ _ trivial (fun _ => ?_)
    clear hK K
    refine take_to (some 53) (i := 8) (v := V ZS.toNat) rfl rfl (by kernel_rfl) (by kernel_rfl) (by kernel_rfl) (fun _ _ _ h => h) (Or.inl ⟨by kernel_rfl, by intro u hSu; go_simp⟩) trivial ?_
    simp only [Act.put, List.setIfInBounds_toArray, List.set_cons_zero, List.set_cons_succ]
    refine take_to (some 54) (i := 9) (v := .bool q) rfl rfl (by kernel_rfl) (by kernel_rfl) (by kernel_rfl) (fun _ _ _ h => h) (Or.inl ⟨by kernel_rfl, by intro u hSu; go_simp⟩) trivial ?_
    simp only [Act.put, List.setIfInBounds_toArray, List.set_cons_zero, List.set_cons_succ]
    refine wpAnyH_done (by kernel_rfl) ?_ _
    go_wp2_with fail
    go_meet
    case rel => exact ⟨rfl, UX, bX⟩
  case rest =>
    obtain ⟨rfl, HX⟩ := hcut
    cases q with
    | true =>
      obtain rfl : Z = .error .sum := by rw [← hZ0, if_pos rfl]
      obtain ⟨u2, b2⟩ := HX.out
      obtain ⟨c0, c1, c2⟩ := b2.c3
      have f0 := b2.frozen
      obtain ⟨wf, hwf, bz, uz⟩ : ∃ wf, wf = ((wc.setCell ⟨w.heap.size, 0, none⟩ (V 0)).setCell ⟨w.heap.size, 1, none⟩ (V 0)).setCell ⟨w.heap.size, 2, none⟩ (.slice none 0 0) ∧ Box wf w.heap.size #[V 0, V 0, .slice none 0 0] ∧ Up w wf := ⟨_, rfl, b2.set3, ((Below.setCell u2 (p := ⟨w.heap.size, 0, none⟩) (Nat.le_refl _) (V 0)).setCell (p := ⟨w.heap.size, 1, none⟩) (Nat.le_refl _) (V 0)).setCell (p := ⟨w.heap.size, 2, none⟩) (Nat.le_refl _) (.slice none 0 0)⟩
      go_wp2
      generalize hq : World.setCell _ _ _ = wq
      obtain rfl : wq = wf := hq.symm.trans hwf.symm
      clear hq hwf c0 c1 c2 f0
      obtain ⟨c0, c1, c2⟩ := bz.c3
      exact bodyPost_ret (v := .tuple #[S0, .int .i64 5]) (by simp [results, Tryd.results23, go_sem, c0, c1, c2]) rfl ⟨rfl, uz⟩
    | false =>
      obtain ⟨u2, b2⟩ := HX.out
      obtain ⟨INN, hI⟩ : ∃ INN, HD.drop 4 = INN := ⟨_, rfl⟩
      have hil : INN.length = E - 4 := by rw [← hI, List.length_drop, HH.out.1]
      have HIN : Hid (HD.drop 4 = INN ∧ INN.length = E - 4) := ⟨hI, hil⟩
      have HZ0 : Hid (Z = innD INN) := by show _ = _; rw [← hZ0, if_neg (by simp), hI]
      clear hI hil HX HSm HNum HRD hZ0
      -- the Cut over what is ahead of the sum
      have bR : Box (wc.alloc (.cells #[.slice a6 n6 k6, .int .i64 4, .bool false] 77)) wc.heap.size #[.slice a6 n6 k6, .int .i64 4, .bool false] := Box.new _ _ _
      have uR : Up wc (wc.alloc (.cells #[.slice a6 n6 k6, .int .i64 4, .bool false] 77)) := Up.alloc _ _
      have hzc := b2.lt
      go_upto_region 9 with fail
      generalize wc.alloc (.cells #[.slice a6 n6 k6, .int .i64 4, .bool false] 77) = w2 at *
      generalize wc.heap.size = r at *
      replace b2 := b2.up uR
      replace u2 := u2.trans uR
      have C2 : CutS w2 r (.slice a6 n6 k6) HD (some INN) := ⟨⟨4, false, bR, by have := HH.out; omega, by rw [← HIN.out.1]; rfl⟩, (HP.out r w2 u2 (by omega)).2⟩
      have hrl := bR.lt
      -- the empty state
      have uS : Up w2 ((w2.alloc (.cells #[] 50)).alloc (.cells #[V 0, V 0, .slice (some ⟨w2.heap.size, 0, none⟩) 0 0] 29)) := (Up.alloc _ _).trans (Up.alloc _ _)
      have bS : Box ((w2.alloc (.cells #[] 50)).alloc (.cells #[V 0, V 0, .slice (some ⟨w2.heap.size, 0, none⟩) 0 0] 29)) (w2.heap.size + 1) #[V 0, V 0, .slice (some ⟨w2.heap.size, 0, none⟩) 0 0] := Box.newAt (by simp)
      have oS : OwnE ((w2.alloc (.cells #[] 50)).alloc (.cells #[V 0, V 0, .slice (some ⟨w2.heap.size, 0, none⟩) 0 0] 29)) (r + 1) (.slice (some ⟨w2.heap.size, 0, none⟩) 0 0) [] :=
        OwnE.up (OwnE.mk (w := w2.alloc (.cells #[] 50)) (cur := #[]) (by omega) (heap_alloc_new _ _) (Nat.le_refl _) (by unfold maxLen; omega) rfl rfl) (Up.alloc _ _)
      have T0 : Td w _ r (.slice a6 n6 k6) HD INN (w2.heap.size + 1) 0 0 (.slice (some ⟨w2.heap.size, 0, none⟩) 0 0) [] := ⟨C2.up uS, u2.trans uS, b2.up uS, bS, oS, nk_of oS bS, by omega, by omega⟩
      have HIL : Hid (20 ≤ INN.length) := by have := HIN.out.2; have := HH.out; show 20 ≤ INN.length; omega
      have hHL : ((HD.length : Nat) : Int) ≤ 140737488351232 := by have := HH.out; omega
      go_upto_region 10 with fail
      generalize (w2.alloc (.cells #[] 50)).alloc (.cells #[V 0, V 0, .slice (some ⟨w2.heap.size, 0, none⟩) 0 0] 29) = w3 at *
      generalize w2.heap.size + 1 = k at *
      generalize hv0 : Value.slice (some ⟨w2.heap.size, 0, none⟩) 0 0 = vk0 at *
      have HV0 : Hid (∃ a n c, vk0 = .slice a n c) := ⟨_, _, _, hv0.symm⟩
      clear hv0 uS bS oS C2 uR bR b2 u2 hrl hzc hz0 u0 b0
      have e1 := rdA_take 8 INN (by have := HIL.out; omega)
      have e2 := rdA_take 8 (INN.drop 8) (by have := HIL.out; rw [List.length_drop]; omega)
      have e3 := rdA_take 4 (INN.drop 16) (by have := HIL.out; rw [List.length_drop]; omega)
      rw [List.drop_drop] at e2 e3
      have hlN : lb ((INN.drop 16).take 4) < 4294967296 := by
        have := lb_lt ((INN.drop 16).take 4)
        have h4 : ((INN.drop 16).take 4).length = 4 := by have := HIL.out; rw [List.length_take, List.length_drop]; omega
        rw [h4] at this
        omega
      obtain ⟨l, hl⟩ : ∃ l, lb (INN.take 8) = l := ⟨_, rfl⟩
      obtain ⟨f, hf⟩ : ∃ f, lb ((INN.drop 8).take 8) = f := ⟨_, rfl⟩
      obtain ⟨NN, hNN⟩ : ∃ NN, lb ((INN.drop 16).take 4) = NN := ⟨_, rfl⟩
      obtain ⟨b3, hb3⟩ : ∃ b3, INN.drop 20 = b3 := ⟨_, rfl⟩
      have HPOST : Hid ((4096 < NN → innD INN = .error .form) ∧ (¬ 4096 < NN → innD INN = fin l f (rowsD NN b3))) := by
        subst hl hf hNN hb3
        exact ⟨fun h => by unfold innD; rw [if_pos h], fun h => innD_fin INN h⟩
      rw [hl] at e1
      rw [hf] at e2
      rw [hNN, show 16 + 4 = 20 from rfl, hb3] at e3
      rw [hNN] at hlN
      have k1 := fun u (h : CutS u r (.slice a6 n6 k6) HD (some INN)) => qNumber_S h hHL 8 (by omega) (by omega)
      rw [e1] at k1
      have k2 := fun u (h : CutS u r (.slice a6 n6 k6) HD (some (INN.drop 8))) => qNumber_S h hHL 8 (by omega) (by omega)
      rw [e2] at k2
      have k3 := fun u (h : CutS u r (.slice a6 n6 k6) HD (some (INN.drop 16))) => qNumber_S h hHL 4 (by omega) (by omega)
      rw [e3] at k3
      have HHL : Hid (((HD.length : Nat) : Int) ≤ 140737488351232) := hHL
      clear hl hf hNN hb3 e1 e2 e3 hHL
      go_wp2_with fail
      refine (k1 _ T0.cut).mono ?_
      rintro e w4 ⟨rfl, h4, g4⟩
      have T1 := T0.read h4 g4
      obtain ⟨c0, c1, c2⟩ := T1.bx.c3
      have f0 := T1.bx.frozen
      have P1 := T1.set 0 (V l) (l' := l) (f' := 0) rfl
      clear h4 g4 T0 T1 k1
      go_wp2_with fail
      refine (k2 _ P1.cut).mono ?_
      rintro e w5 ⟨rfl, h4, g4⟩
      have T2 := P1.read h4 g4
      clear c0 c1 c2 f0
      obtain ⟨c0, c1, c2⟩ := T2.bx.c3
      have f0 := T2.bx.frozen
      have P2 := T2.set 1 (V f) (l' := l) (f' := f) rfl
      clear h4 g4 P1 T2 k2
      go_wp2_with fail
      refine (k3 _ P2.cut).mono ?_
      rintro e w6 ⟨rfl, h4, g4⟩
      have T3 := P2.read h4 g4
      clear h4 g4 P2 k3 c0 c1 c2 f0
      by_cases hN : 4096 < NN
      · obtain rfl : Z = .error .form := HZ0.out.trans (HPOST.out.1 hN)
        have hN1 : (4096 : Int) < (NN : Int) := by omega
        have hN2 : (4096 : Nat) < NN := hN
        have uu := T3.up
        have bb := T3.out
        clear T3 hN
        obtain ⟨c0, c1, c2⟩ := bb.c3
        have f0 := bb.frozen
        obtain ⟨wf, hwf, bz, uz⟩ : ∃ wf, wf = ((w6.setCell ⟨w.heap.size, 0, none⟩ (V 0)).setCell ⟨w.heap.size, 1, none⟩ (V 0)).setCell ⟨w.heap.size, 2, none⟩ (.slice none 0 0) ∧ Box wf w.heap.size #[V 0, V 0, .slice none 0 0] ∧ Up w wf := ⟨_, rfl, bb.set3, ((Below.setCell uu (p := ⟨w.heap.size, 0, none⟩) (Nat.le_refl _) (V 0)).setCell (p := ⟨w.heap.size, 1, none⟩) (Nat.le_refl _) (V 0)).setCell (p := ⟨w.heap.size, 2, none⟩) (Nat.le_refl _) (.slice none 0 0)⟩
        go_wp2
        generalize hq : World.setCell _ _ _ = wq
        obtain rfl : wq = wf := hq.symm.trans hwf.symm
        clear hq hwf c0 c1 c2 f0
        obtain ⟨c0, c1, c2⟩ := bz.c3
        exact bodyPost_ret (v := .tuple #[S0, .int .i64 3]) (by simp [results, Tryd.results23, go_sem, c0, c1, c2]) rfl ⟨rfl, uz⟩
      · have HZ : Hid (Z = fin l f (rowsD NN b3)) := HZ0.out.trans (HPOST.out.2 hN)
        have hN1 : ¬ (4096 : Int) < (NN : Int) := by omega
        have hN2 : ¬ (4096 : Nat) < NN := hN
        have hN3 : (NN : Int) ≤ 4096 := by omega
        obtain ⟨R, hR⟩ : ∃ R, rowsD NN b3 = R := ⟨_, rfl⟩
        rw [hR] at HZ
        have HR0 : Hid (R = more [] (rowsD (NN - 0) b3)) := by show _ = _; rw [more_nil, Nat.sub_zero, hR]
        have HT : Hid (Td w w6 r (.slice a6 n6 k6) HD b3 k l f vk0 []) := T3
        have HNN : Hid (NN ≤ 4096) := by show _ ≤ _; omega
        clear hR T3 hN
        go_wp2
        go_loopg [8] NN (fun g s8 wr => ∃ (i : Nat) (rest : List UInt8) (vk : Value) (es : List Ent), i ≤ NN ∧ g = NN - i ∧ s8 = V i ∧ Hid (Td w wr r (.slice a6 n6 k6) HD rest k l f vk es ∧ ∃ a n c, vk = .slice a n c) ∧ Hid (R = more es (rowsD (NN - i) rest) ∧ es.length = i ∧ ∀ x ∈ es, x.1.size ≤ 9223372036854775807))
        case atStart => exact ⟨0, b3, vk0, [], by omega, rfl, rfl, ⟨HT.out, HV0.out⟩, HR0.out, rfl, by intro x hx; cases hx⟩
        case round =>
          clear HT HR0 HV0
          obtain ⟨i, rest, vk, es, hi, rfl, rfl, HT, HR⟩ := hrel
          obtain ⟨ak, nk, ck, rfl⟩ := HT.out.2
          by_cases hlt : i < NN
          · have hlt' : (i : Int) < (NN : Int) := by omega
            have HI2 : Hid (es.length ≤ 1000000 ∧ i + 1 ≤ NN) := ⟨by have := HR.out.2.1; omega, hlt⟩
            have hn : NN - i = (NN - (i + 1)) + 1 := by omega
            have hent := qEntry_any HT.out.1.cut HHL.out
            obtain ⟨D, hD⟩ : ∃ D, entD rest = D := ⟨_, rfl⟩
            have hD0 : Hid (entD rest = D) := hD
            rw [hD] at hent
            cases D with
            | error x =>
              have hfin : R = .error x := by rw [HR.out.1, hn, rowsD, hD]; rfl
              subst hfin
              obtain rfl : Z = .error x := HZ.out.trans rfl
              clear HZ
              go_wp2_with fail
              refine hent.mono ?_
              rintro e w7 ⟨hQ, g7⟩
              have uu : Up w w7 := g7.upI HT.out.1.up (by have := HT.out.1.lr; omega)
              have bb := HT.out.1.out.but g7 (by have := HT.out.1.lr; omega)
              clear hent g7 HR HT hD hn hi hlt
              cases x with
              | short =>
                obtain ⟨⟨yk, ⟨y0, y1, y2, y3, y4⟩, y5, y6, y7⟩, rfl⟩ := hQ
                have uu2 := uu.trans (Up.alloc w7 (.cells #[.string yk, .int .i64 y0, V y1, V y2, V y3, V y4, V y5, V y6, V y7] 50))
                have bb2 := bb.up (Up.alloc w7 (.cells #[.string yk, .int .i64 y0, V y1, V y2, V y3, V y4, V y5, V y6, V y7] 50))
                obtain ⟨c0, c1, c2⟩ := bb2.c3
                have f0 := bb2.frozen
                obtain ⟨wf, hwf, bz, uz⟩ : ∃ wf, wf = (((w7.alloc (.cells #[.string yk, .int .i64 y0, V y1, V y2, V y3, V y4, V y5, V y6, V y7] 50)).setCell ⟨w.heap.size, 0, none⟩ (V 0)).setCell ⟨w.heap.size, 1, none⟩ (V 0)).setCell ⟨w.heap.size, 2, none⟩ (.slice none 0 0) ∧ Box wf w.heap.size #[V 0, V 0, .slice none 0 0] ∧ Up w wf := ⟨_, rfl, bb2.set3, ((Below.setCell uu2 (p := ⟨w.heap.size, 0, none⟩) (Nat.le_refl _) (V 0)).setCell (p := ⟨w.heap.size, 1, none⟩) (Nat.le_refl _) (V 0)).setCell (p := ⟨w.heap.size, 2, none⟩) (Nat.le_refl _) (.slice none 0 0)⟩
                go_wp2
                generalize hq : World.setCell _ _ _ = wq
                obtain rfl : wq = wf := hq.symm.trans hwf.symm
                clear hq hwf c0 c1 c2 f0
                obtain ⟨c0, c1, c2⟩ := bz.c3
                exact bodyPost_ret (v := .tuple #[S0, .int .i64 2]) (by simp [results, Tryd.results23, go_sem, c0, c1, c2]) rfl ⟨rfl, uz⟩
              | form =>
                obtain ⟨⟨yk, ⟨y0, y1, y2, y3, y4⟩, y5, y6, y7⟩, rfl⟩ := hQ
                have uu2 := uu.trans (Up.alloc w7 (.cells #[.string yk, .int .i64 y0, V y1, V y2, V y3, V y4, V y5, V y6, V y7] 50))
                have bb2 := bb.up (Up.alloc w7 (.cells #[.string yk, .int .i64 y0, V y1, V y2, V y3, V y4, V y5, V y6, V y7] 50))
                obtain ⟨c0, c1, c2⟩ := bb2.c3
                have f0 := bb2.frozen
                obtain ⟨wf, hwf, bz, uz⟩ : ∃ wf, wf = (((w7.alloc (.cells #[.string yk, .int .i64 y0, V y1, V y2, V y3, V y4, V y5, V y6, V y7] 50)).setCell ⟨w.heap.size, 0, none⟩ (V 0)).setCell ⟨w.heap.size, 1, none⟩ (V 0)).setCell ⟨w.heap.size, 2, none⟩ (.slice none 0 0) ∧ Box wf w.heap.size #[V 0, V 0, .slice none 0 0] ∧ Up w wf := ⟨_, rfl, bb2.set3, ((Below.setCell uu2 (p := ⟨w.heap.size, 0, none⟩) (Nat.le_refl _) (V 0)).setCell (p := ⟨w.heap.size, 1, none⟩) (Nat.le_refl _) (V 0)).setCell (p := ⟨w.heap.size, 2, none⟩) (Nat.le_refl _) (.slice none 0 0)⟩
                go_wp2
                generalize hq : World.setCell _ _ _ = wq
                obtain rfl : wq = wf := hq.symm.trans hwf.symm
                clear hq hwf c0 c1 c2 f0
                obtain ⟨c0, c1, c2⟩ := bz.c3
                exact bodyPost_ret (v := .tuple #[S0, .int .i64 3]) (by simp [results, Tryd.results23, go_sem, c0, c1, c2]) rfl ⟨rfl, uz⟩
              | sum => exact absurd hD0.out entD_sum
            | ok p =>
              obtain ⟨x, b1⟩ := p
              have HXX : Hid (R = more (es ++ [x]) (rowsD (NN - (i + 1)) b1) ∧ (es ++ [x]).length = i + 1 ∧ ∀ y ∈ es ++ [x], y.1.size ≤ 9223372036854775807) := ⟨by rw [HR.out.1, hn, more_step es hD], by simp [HR.out.2.1], fun y hy => by
                rcases List.mem_append.1 hy with h | h
                · exact HR.out.2.2 y h
                · obtain rfl := List.mem_singleton.1 h
                  have := (entD_inv hD).2.1.key
                  omega⟩
              clear hD hn hi HR
              go_wp2_with fail
              refine hent.mono ?_
              rintro e w7 ⟨⟨rfl, h7⟩, g7⟩
              have T1 := HT.out.1.read h7 g7
              clear hent h7 g7 HT
              have ux : Up w7 (w7.alloc (.cells (EC x).toArray 50)) := Up.alloc _ _
              have nb : Box (w7.alloc (.cells (EC x).toArray 50)) w7.heap.size (EC x).toArray := Box.new _ _ _
              have T2 := T1.alloc ux
              obtain ⟨xk, ⟨x0, x1, x2, x3, x4⟩, x5, x6, x7⟩ := x
              simp only [EC] at nb T2 ux
              go_upto_region 21 with fail
              generalize w7.alloc _ = w8 at *
              obtain ⟨c0, c1, c2⟩ := T2.bx.c3
              obtain ⟨d0, d1, d2, d3, d4, d5, d6, d7, d8⟩ := nb.c9
              have ux2 : Up w8 (w8.alloc (.cells #[.string xk, .int .i64 x0, V x1, V x2, V x3, V x4, V x5, V x6, V x7] 50)) := Up.alloc _ _
              have nb2 : Box (w8.alloc (.cells #[.string xk, .int .i64 x0, V x1, V x2, V x3, V x4, V x5, V x6, V x7] 50)) w8.heap.size #[.string xk, .int .i64 x0, V x1, V x2, V x3, V x4, V x5, V x6, V x7] := Box.new _ _ _
              have T3 := T2.alloc ux2
              clear T1 ux
              go_wp2_with (at_builtin; refine wpList_pushE _ rfl (.tmp 91) (.tmp 93) rfl (r + 1) w8.heap.size _ es (xk, ⟨x0, x1, x2, x3, x4⟩, ⟨x5, x6, x7⟩) rfl rfl T3.own nb2 (by have := T3.bx.lt; have := T3.lk; omega) HI2.out.1 ?_)
              intro v9 w9 o9 g9
              obtain ⟨a9, n9, c9, rfl⟩ : ∃ a n c, v9 = .slice a n c := by obtain ⟨a, c, e⟩ := o9.shape; exact ⟨_, _, _, e⟩
              obtain ⟨b9, T9⟩ := T3.grow g9 o9
              clear c0 c1 c2 d0 d1 d2 d3 d4 d5 d6 d7 d8 T2 T3 nb nb2 ux2 o9 g9
              obtain ⟨c0, c1, c2⟩ := b9.c3
              have f2 := b9.frozen 2
              go_wp2
              clear c0 c1 c2 f2 b9
              generalize World.setCell w9 _ _ = wx at *
              have HTT : Hid (Td w wx r (.slice a6 n6 k6) HD b1 k l f (.slice a9 n9 c9) (es ++ [(xk, ⟨x0, x1, x2, x3, x4⟩, ⟨x5, x6, x7⟩)]) ∧ ∃ a n c, Value.slice a9 n9 c9 = .slice a n c) := ⟨T9, _, _, _, rfl⟩
              clear T9
              go_roundg (NN - (i + 1))
              case measure => have := HI2.out.2; omega
              case rel => exact ⟨i + 1, b1, _, _, HI2.out.2, rfl, by go_num, HTT, HXX.out⟩
          · obtain rfl : i = NN := by omega
            have hlt' : ¬ (i : Int) < (i : Int) := by omega
            have hfin : R = .ok (es, rest) := by rw [HR.out.1, Nat.sub_self, rowsD]; simp [more]
            subst hfin
            have T := HT.out.1
            have hle : es.length ≤ 4096 := by have := HR.out.2.1; have := HNN.out; omega
            have HSZ : Hid (∀ x ∈ es, x.1.size ≤ 9223372036854775807) := HR.out.2.2
            have hV := rValid_any (.slice ak nk ck) l f es wr T.own.sl (by omega) HSZ.out
            obtain ⟨q2, hq2⟩ : ∃ q, okS ⟨l, f, es⟩ = q := ⟨_, rfl⟩
            have HQ2 : Hid (okS ⟨l, f, es⟩ = q2) := hq2
            rw [hq2] at hV
            obtain ⟨c0, c1, c2⟩ := T.bx.c3
            clear HT HR hlt hi hq2
            go_wp2_with fail
            refine hV.mono ?_
            rintro e w7 ⟨rfl, u7⟩
            have T7 := T.alloc u7
            obtain ⟨at_, ca, hca, hda⟩ := T7.cut.at_
            have hN0 : r ≠ 0 := by have := T7.lr; omega
            clear c0 c1 c2 T hV u7
            by_cases hr : rest = []
            · subst hr
              obtain rfl : at_ = E := by
                have h1 := congrArg List.length hda
                rw [List.length_nil, List.length_drop, HH.out.1] at h1
                have := HH.out.1
                omega
              have hne : ((at_ : Int) != (at_ : Int)) = false := by simp
              cases q2 with
              | false =>
                obtain rfl : Z = .error .form := HZ.out.trans (fin_bad (.inr HQ2.out))
                have uu := T7.up
                have bb := T7.out
                clear T7 hda
                obtain ⟨c0, c1, c2⟩ := bb.c3
                have f0 := bb.frozen
                obtain ⟨wf, hwf, bz, uz⟩ : ∃ wf, wf = ((w7.setCell ⟨w.heap.size, 0, none⟩ (V 0)).setCell ⟨w.heap.size, 1, none⟩ (V 0)).setCell ⟨w.heap.size, 2, none⟩ (.slice none 0 0) ∧ Box wf w.heap.size #[V 0, V 0, .slice none 0 0] ∧ Up w wf := ⟨_, rfl, bb.set3, ((Below.setCell uu (p := ⟨w.heap.size, 0, none⟩) (Nat.le_refl _) (V 0)).setCell (p := ⟨w.heap.size, 1, none⟩) (Nat.le_refl _) (V 0)).setCell (p := ⟨w.heap.size, 2, none⟩) (Nat.le_refl _) (.slice none 0 0)⟩
                go_wp2
                generalize hq : World.setCell _ _ _ = wq
                obtain rfl : wq = wf := hq.symm.trans hwf.symm
                clear hq hwf c0 c1 c2 f0
                obtain ⟨c0, c1, c2⟩ := bz.c3
                exact bodyPost_ret (v := .tuple #[S0, .int .i64 3]) (by simp [results, Tryd.results23, go_sem, c0, c1, c2]) rfl ⟨rfl, uz⟩
              | true =>
                obtain rfl := HZ.out.trans (fin_ok HQ2.out)
                obtain ⟨c0, c1, c2⟩ := T7.bx.c3
                obtain ⟨o0, o1, o2⟩ := T7.out.c3
                have fz := T7.out.frozen
                have hg := T7.own.ge
                have hlr := T7.lr
                obtain ⟨wf, hwf, bz, uz, oz⟩ : ∃ wf, wf = ((w7.setCell ⟨w.heap.size, 0, none⟩ (V l)).setCell ⟨w.heap.size, 1, none⟩ (V f)).setCell ⟨w.heap.size, 2, none⟩ (.slice ak nk ck) ∧ Box wf w.heap.size #[V l, V f, .slice ak nk ck] ∧ Up w wf ∧ OwnE wf (r + 1) (.slice ak nk ck) es := ⟨_, rfl, T7.out.set3, ((Below.setCell T7.up (p := ⟨w.heap.size, 0, none⟩) (Nat.le_refl _) (V l)).setCell (p := ⟨w.heap.size, 1, none⟩) (Nat.le_refl _) (V f)).setCell (p := ⟨w.heap.size, 2, none⟩) (Nat.le_refl _) (.slice ak nk ck), ((T7.own.kept (Touch.setCell (Touch.refl _ [w.heap.size]) (.inl (by simp)) 0 (V l)) (fun j hj => by have := (hg j hj).1; simp only [List.mem_singleton]; omega)).kept (Touch.setCell (Touch.refl _ [w.heap.size]) (.inl (by simp)) 1 (V f)) (fun j hj => by have := (hg j hj).1; simp only [List.mem_singleton]; omega)).kept (Touch.setCell (Touch.refl _ [w.heap.size]) (.inl (by simp)) 2 (.slice ak nk ck)) (fun j hj => by have := (hg j hj).1; simp only [List.mem_singleton]; omega)⟩
                clear T7 hg
                go_wp2
                generalize hq : World.setCell _ _ _ = wq
                obtain rfl : wq = wf := hq.symm.trans hwf.symm
                clear hq hwf c0 c1 c2 o0 o1 o2 fz
                obtain ⟨c0, c1, c2⟩ := bz.c3
                exact bodyPost_ret (v := .tuple #[.agg #[V l, V f, .slice ak nk ck], .int .i64 0]) (by simp [results, Tryd.results23, go_sem, c0, c1, c2]) rfl ⟨⟨_, rfl, oz.rebase (by omega)⟩, uz⟩
            · have hne : ((at_ : Int) != (E : Int)) = true := by
                simp only [bne_iff_ne, ne_eq]
                intro e
                apply hr
                rw [hda, List.drop_of_length_le (by have := HH.out.1; omega)]
              obtain rfl : Z = .error .form := HZ.out.trans (fin_bad (.inl hr))
              have uu := T7.up
              have bb := T7.out
              clear T7 hda hr
              obtain ⟨c0, c1, c2⟩ := bb.c3
              have f0 := bb.frozen
              obtain ⟨wf, hwf, bz, uz⟩ : ∃ wf, wf = ((w7.setCell ⟨w.heap.size, 0, none⟩ (V 0)).setCell ⟨w.heap.size, 1, none⟩ (V 0)).setCell ⟨w.heap.size, 2, none⟩ (.slice none 0 0) ∧ Box wf w.heap.size #[V 0, V 0, .slice none 0 0] ∧ Up w wf := ⟨_, rfl, bb.set3, ((Below.setCell uu (p := ⟨w.heap.size, 0, none⟩) (Nat.le_refl _) (V 0)).setCell (p := ⟨w.heap.size, 1, none⟩) (Nat.le_refl _) (V 0)).setCell (p := ⟨w.heap.size, 2, none⟩) (Nat.le_refl _) (.slice none 0 0)⟩
              go_wp2
              generalize hq : World.setCell _ _ _ = wq
              obtain rfl : wq = wf := hq.symm.trans hwf.symm
              clear hq hwf c0 c1 c2 f0
              obtain ⟨c0, c1, c2⟩ := bz.c3
              exact bodyPost_ret (v := .tuple #[S0, .int .i64 3]) (by simp [results, Tryd.results23, go_sem, c0, c1, c2]) rfl ⟨rfl, uz⟩
end Go.Proofs.YtooclofdljampaaDoor
