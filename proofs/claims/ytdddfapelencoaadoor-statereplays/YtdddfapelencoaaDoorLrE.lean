/- Merged: StRfH, StRfR, StRfI. -/
import Derived.Test.YtdddfapelencoaaDoorLrC
import Derived.Test.YtdddfapelencoaaDoorLkF
import Derived.Test.YtdddfapelencoaaDoorLkJ
import Derived.Test.YtdddfapelencoaaDoorStNum
set_option linter.unusedVariables false
set_option linter.unusedSimpArgs false
namespace Go.Proofs.YtdddfapelencoaaDoor
open Go Go.RowKit

abbrev S0R : Value := .agg #[V 0, V 0, .slice none 0 0]
/-- What the reference's Apply and Replay answer. -/
def AP (base : Nat) (w' : World) (e : Ending) : Except Flw StV → Prop
  | .error x => e = .returned (.tuple #[S0R, .int .i64 (numF x : Nat)])
  | .ok t => ∃ v', e = .returned (.tuple #[.agg #[V t.lsn, V t.floor, v'], .int .i64 0]) ∧ OwnE w' base v' t.keys

set_option maxRecDepth 20000 in
set_option maxHeartbeats 3200000 in
theorem rApply_go (ao : Option Addr) (N cp l f n : Nat) (xs : List Ent) (k : Int) (fl : Nat) (S : ByteArray) (pk : Int) (rg rs rl rp rt ri rc : Nat) (w : World) (q : Bool) (R Z : Except Flw StV) (h : SlE w (.slice ao N cp) xs) (hN : xs.length = N)
    (hV : ∀ u, Up w u → Calls Tryd.prog 7 #[.agg #[V l, V f, .slice ao N cp]] u fun e w' => e = .returned (.bool q) ∧ Up u w') (hq : q = true → N ≤ 4096)
    (hS : q = true → ∀ (sb base : Nat) (v' : Value) (u : World), Box u sb #[V l, V f, v'] → OwnE u base v' xs → base ≤ u.heap.size → Calls Tryd.prog 31 #[.pointer (some ⟨sb, 0, none⟩), V n, .agg #[.int .i64 k, V fl, .string S, .int .i64 pk, V rg, V rs, V rl, V rp, V rt, V ri, V rc]] u (RPost sb base u R))
    (hZ : (if q = true then R else .error .arg) = Z) :
    Calls Tryd.prog 13 #[.agg #[V l, V f, .slice ao N cp], V n, .agg #[.int .i64 k, V fl, .string S, .int .i64 pk, V rg, V rs, V rl, V rp, V rt, V ri, V rc]] w fun e w' => AP w.heap.size w' e Z ∧ Up w w' := by
  have HS : Hid (SlE w (.slice ao N cp) xs ∧ xs.length = N ∧ (q = true → N ≤ 4096)) := ⟨h, hN, hq⟩
  have HV : Hid (∀ u, Up w u → Calls Tryd.prog 7 #[.agg #[V l, V f, .slice ao N cp]] u fun e w' => e = .returned (.bool q) ∧ Up u w') := hV
  have HT : Hid (q = true → ∀ (sb base : Nat) (v' : Value) (u : World), Box u sb #[V l, V f, v'] → OwnE u base v' xs → base ≤ u.heap.size → Calls Tryd.prog 31 #[.pointer (some ⟨sb, 0, none⟩), V n, .agg #[.int .i64 k, V fl, .string S, .int .i64 pk, V rg, V rs, V rl, V rp, V rt, V ri, V rc]] u (RPost sb base u R)) := hS
  have u0 : Up w (((w.alloc (.cells #[V l, V f, .slice ao N cp] 27)).alloc (.cells #[.int .i64 k, V fl, .string S, .int .i64 pk, V rg, V rs, V rl, V rp, V rt, V ri, V rc] 39)).alloc (.cells #[V 0, V 0, .slice none 0 0] 27)) := ((Up.alloc _ _).trans (Up.alloc _ _)).trans (Up.alloc _ _)
  have bs : Box (((w.alloc (.cells #[V l, V f, .slice ao N cp] 27)).alloc (.cells #[.int .i64 k, V fl, .string S, .int .i64 pk, V rg, V rs, V rl, V rp, V rt, V ri, V rc] 39)).alloc (.cells #[V 0, V 0, .slice none 0 0] 27)) w.heap.size #[V l, V f, .slice ao N cp] := ((Box.new _ _ _).alloc _).alloc _
  have br : Box (((w.alloc (.cells #[V l, V f, .slice ao N cp] 27)).alloc (.cells #[.int .i64 k, V fl, .string S, .int .i64 pk, V rg, V rs, V rl, V rp, V rt, V ri, V rc] 39)).alloc (.cells #[V 0, V 0, .slice none 0 0] 27)) (w.heap.size + 1) #[.int .i64 k, V fl, .string S, .int .i64 pk, V rg, V rs, V rl, V rp, V rt, V ri, V rc] := (Box.newAt (by simp)).alloc _
  have bo : Box (((w.alloc (.cells #[V l, V f, .slice ao N cp] 27)).alloc (.cells #[.int .i64 k, V fl, .string S, .int .i64 pk, V rg, V rs, V rl, V rp, V rt, V ri, V rc] 39)).alloc (.cells #[V 0, V 0, .slice none 0 0] 27)) (w.heap.size + 1 + 1) #[V 0, V 0, .slice none 0 0] := Box.newAt (by simp)
  clear h hN hV hS hq
  go_enter Tryd.func13, Tryd.ntmps13
  go_upto_region 1 with fail
  generalize (((w.alloc (.cells #[V l, V f, .slice ao N cp] 27)).alloc (.cells #[.int .i64 k, V fl, .string S, .int .i64 pk, V rg, V rs, V rl, V rp, V rt, V ri, V rc] 39)).alloc (.cells #[V 0, V 0, .slice none 0 0] 27)) = w0 at *
  obtain ⟨B, hB⟩ : ∃ B, w.heap.size = B := ⟨_, rfl⟩
  have HB : Hid (w.heap.size = B) := hB
  rw [hB] at bs br bo
  rw [hB]
  clear hB
  obtain ⟨s0, s1, s2⟩ := bs.c3
  go_wp2_with fail
  refine (HV.out _ u0).mono ?_
  rintro e w1 ⟨rfl, u1⟩
  replace u0 := u0.trans u1
  replace bs := bs.up u1
  replace br := br.up u1
  replace bo := bo.up u1
  clear s0 s1 s2 HV u1
  obtain ⟨s0, s1, s2⟩ := bs.c3
  cases q with
  | false =>
    obtain rfl : Z = .error .arg := by rw [← hZ, if_neg (by simp)]
    obtain ⟨z0, z1, z2⟩ := bo.c3
    have zf := bo.frozen
    obtain ⟨wf, hwf, bf, uf⟩ : ∃ wf, wf = ((w1.setCell ⟨B + 2, 0, none⟩ (V 0)).setCell ⟨B + 2, 1, none⟩ (V 0)).setCell ⟨B + 2, 2, none⟩ (.slice none 0 0) ∧ Box wf (B + 2) #[V 0, V 0, .slice none 0 0] ∧ Up w wf := by
      have hset : Touch w1 (((w1.setCell ⟨B + 2, 0, none⟩ (V 0)).setCell ⟨B + 2, 1, none⟩ (V 0)).setCell ⟨B + 2, 2, none⟩ (.slice none 0 0)) [B + 2] := (((Touch.refl _ [B + 2]).setCell (.inl (by simp)) 0 _).setCell (.inl (by simp)) 1 _).setCell (.inl (by simp)) 2 _
      exact ⟨_, rfl, bo.set3, ((Touch.of_up u0 [B + 2]).trans hset (fun k hk => .inl hk)).up (fun k hk => by simp only [List.mem_singleton] at hk; have := HB.out; omega)⟩
    clear HS HT hZ
    go_wp2
    generalize hq : World.setCell _ _ _ = wq
    obtain rfl : wq = wf := hq.symm.trans hwf.symm
    clear hq hwf z0 z1 z2 zf s0 s1 s2
    obtain ⟨c0, c1, c2⟩ := bf.c3
    exact bodyPost_ret (v := .tuple #[S0R, .int .i64 1]) (by simp [results, Tryd.results13, go_sem, c0, c1, c2]) rfl ⟨rfl, uf⟩
  | true =>
    obtain rfl : Z = R := by rw [← hZ, if_pos rfl]
    clear hZ
    have hC := rCopied_any (.slice ao N cp) l f xs w1 (HS.out.1.up u0) (by rw [HS.out.2.1]; exact HS.out.2.2 rfl)
    go_wp2_with fail
    refine hC.mono ?_
    rintro e w2 ⟨v2, rfl, o2, u1⟩
    have hz1 := bo.lt
    obtain ⟨BB, hBB⟩ : ∃ BB, w1.heap.size = BB := ⟨_, rfl⟩
    rw [hBB] at o2 hz1
    have hBu : BB ≤ w2.heap.size := by have := u1.size; omega
    have HBB : Hid (B + 2 < BB ∧ BB ≤ w2.heap.size) := ⟨hz1, hBu⟩
    replace u0 := u0.trans u1
    replace bs := bs.up u1
    replace br := br.up u1
    replace bo := bo.up u1
    clear s0 s1 s2 u1 hC hz1 hBu hBB
    obtain ⟨a2, n2, k2, rfl⟩ : ∃ a n c, v2 = .slice a n c := by obtain ⟨a, c, e⟩ := o2.shape; exact ⟨_, _, _, e⟩
    have uo : Up w2 (w2.alloc (.cells #[V l, V f, .slice a2 n2 k2] 27)) := Up.alloc _ _
    have bx : Box (w2.alloc (.cells #[V l, V f, .slice a2 n2 k2] 27)) w2.heap.size #[V l, V f, .slice a2 n2 k2] := Box.new _ _ _
    have o3 := o2.up uo
    have br3 := br.up uo
    have u3 := u0.trans uo
    have bo3 := bo.up uo
    obtain ⟨r0, r1, r2, r3, r4, r5, r6, r7, r8, r9, r10⟩ := br3.c11
    have hT := HT.out (by simp) w2.heap.size BB _ _ bx o3 (Nat.le_trans HBB.out.2 uo.size)
    have HX : Hid (w2.heap.size ≠ B + 2 ∧ w.heap.size ≤ w2.heap.size ∧ BB ≤ (w2.alloc (.cells #[V l, V f, .slice a2 n2 k2] 27)).heap.size) := ⟨by have := HBB.out; omega, u0.size, Nat.le_trans HBB.out.2 uo.size⟩
    clear bs br bo u0 uo o2 HT
    go_wp2_with fail
    generalize w2.alloc (.cells #[V l, V f, .slice a2 n2 k2] 27) = w3 at *
    generalize w2.heap.size = b8 at *
    refine hT.mono ?_
    intro e w4 hP
    clear hT r0 r1 r2 r3 r4 r5 r6 r7 r8 r9 r10 br3 bx o3
    cases Z with
    | error x =>
      obtain ⟨rfl, u4⟩ := hP
      have u5 := u3.trans u4
      have b5 := bo3.up u4
      clear u3 u4 bo3
      obtain ⟨z0, z1, z2⟩ := b5.c3
      have zf := b5.frozen
      obtain ⟨wf, hwf, bf, uf⟩ : ∃ wf, wf = ((w4.setCell ⟨B + 2, 0, none⟩ (V 0)).setCell ⟨B + 2, 1, none⟩ (V 0)).setCell ⟨B + 2, 2, none⟩ (.slice none 0 0) ∧ Box wf (B + 2) #[V 0, V 0, .slice none 0 0] ∧ Up w wf := by
        have hset : Touch w4 (((w4.setCell ⟨B + 2, 0, none⟩ (V 0)).setCell ⟨B + 2, 1, none⟩ (V 0)).setCell ⟨B + 2, 2, none⟩ (.slice none 0 0)) [B + 2] := (((Touch.refl _ [B + 2]).setCell (.inl (by simp)) 0 _).setCell (.inl (by simp)) 1 _).setCell (.inl (by simp)) 2 _
        exact ⟨_, rfl, b5.set3, ((Touch.of_up u5 [B + 2]).trans hset (fun k hk => .inl hk)).up (fun k hk => by simp only [List.mem_singleton] at hk; have := HB.out; omega)⟩
      cases x
      all_goals
        simp only [numF]
        go_wp2
        generalize hq : World.setCell _ _ _ = wq
        obtain rfl : wq = wf := hq.symm.trans hwf.symm
        clear hq hwf z0 z1 z2 zf
        obtain ⟨c0, c1, c2⟩ := bf.c3
        refine bodyPost_ret (v := .tuple #[S0R, .int .i64 _]) (by simp [results, Tryd.results13, go_sem, c0, c1, c2]; rfl) rfl ⟨rfl, uf⟩
    | ok s =>
      obtain ⟨rfl, v4, b4, o4, t4⟩ := hP
      obtain ⟨a4, n4, k4, rfl⟩ : ∃ a n c, v4 = .slice a n c := by obtain ⟨a, c, e⟩ := o4.shape; exact ⟨_, _, _, e⟩
      have hnot : B + 2 ∉ Rb b8 BB w3.heap.size := fun hm => by
        rcases Rb_mem hm with h | h
        · exact HX.out.1 h.symm
        · have := HBB.out.1; omega
      have b5 := Touch.box bo3 t4 hnot
      have t5 := (Touch.of_up u3 (Rb b8 BB w3.heap.size)).trans t4 (fun k hk => .inl hk)
      have hge : ∀ k ∈ Rb b8 BB w3.heap.size, w.heap.size ≤ k := fun k hk => by
        have h1 := HX.out.2.1
        have h2 := HBB.out.1
        have h3 := HB.out
        rcases Rb_mem hk with h | h
        · omega
        · omega
      have u5 := t5.up hge
      clear u3 bo3 t4 t5 hge hnot
      obtain ⟨x0, x1, x2⟩ := b4.c3
      obtain ⟨z0, z1, z2⟩ := b5.c3
      have zf := b5.frozen
      obtain ⟨wf, hwf, bf, uf, of⟩ : ∃ wf, wf = ((w4.setCell ⟨B + 2, 0, none⟩ (V s.lsn)).setCell ⟨B + 2, 1, none⟩ (V s.floor)).setCell ⟨B + 2, 2, none⟩ (.slice a4 n4 k4) ∧ Box wf (B + 2) #[V s.lsn, V s.floor, .slice a4 n4 k4] ∧ Up w wf ∧ OwnE wf B (.slice a4 n4 k4) s.keys := by
        have hset : Touch w4 (((w4.setCell ⟨B + 2, 0, none⟩ (V s.lsn)).setCell ⟨B + 2, 1, none⟩ (V s.floor)).setCell ⟨B + 2, 2, none⟩ (.slice a4 n4 k4)) [B + 2] := (((Touch.refl _ [B + 2]).setCell (.inl (by simp)) 0 _).setCell (.inl (by simp)) 1 _).setCell (.inl (by simp)) 2 _
        exact ⟨_, rfl, b5.set3, ((Touch.of_up u5 [B + 2]).trans hset (fun k hk => .inl hk)).up (fun k hk => by simp only [List.mem_singleton] at hk; have := HB.out; omega), (o4.kept hset (fun k hk => by simp only [List.mem_singleton]; have := (o4.ge k hk).1; have := HBB.out.1; omega)).rebase (by have := HBB.out.1; omega)⟩
      obtain ⟨tl, tf, tk⟩ := s
      simp only at *
      clear o4 b4 b5 u5
      go_wp2
      generalize hq : World.setCell _ _ _ = wq
      obtain rfl : wq = wf := hq.symm.trans hwf.symm
      clear hq hwf z0 z1 z2 zf x0 x1 x2
      obtain ⟨c0, c1, c2⟩ := bf.c3
      exact bodyPost_ret (v := .tuple #[.agg #[V tl, V tf, .slice a4 n4 k4], .int .i64 0]) (by simp [results, Tryd.results13, go_sem, c0, c1, c2]) rfl ⟨⟨_, rfl, by rw [HB.out]; exact of⟩, uf⟩

theorem rApply_any (v : Value) (l f n : Nat) (xs : List Ent) (r : RecV) (w : World) (h : SlE w v xs) (hl : xs.length ≤ 4611686018427387903) (hxs : ∀ x ∈ xs, x.1.size ≤ 9223372036854775807) :
    Calls Tryd.prog 13 #[.agg #[V l, V f, v], V n, RV r] w fun e w' => AP w.heap.size w' e (applyS ⟨l, f, xs⟩ n r) ∧ Up w w' := by
  obtain ⟨ao, cp, rfl⟩ := h.shape
  have hV := fun u (uu : Up w u) => rValid_any _ l f xs u (h.up uu) hl hxs
  unfold applyS
  refine rApply_go ao xs.length cp l f n xs _ _ _ _ _ _ _ _ _ _ _ w (okS ⟨l, f, xs⟩) (stepS ⟨l, f, xs⟩ n r) _ h rfl hV (fun hq => ((okS_iff _).1 hq).len) ?_ rfl
  intro hq sb base v' u hb ho hbase
  exact rstep_any sb base l f n v' xs r u hb ho ((okS_iff _).1 hq) hbase
end Go.Proofs.YtdddfapelencoaaDoor

set_option linter.unusedVariables false
namespace Go.Proofs.YtdddfapelencoaaDoor
open Go Go.RowKit

/-- One by one: numbers that s holds left out, a number past 2^64 above all. -/
def goR (l0 first : Nat) : StV → Nat → List RecV → Except Flw StV
  | s, _, [] => .ok s
  | s, i, r :: rs =>
    if first ≤ (first + i) % 18446744073709551616 ∧ (first + i) % 18446744073709551616 ≤ l0 then goR l0 first s (i + 1) rs
    else match stepS s (if (first + i) % 18446744073709551616 < first then 4611686018427387905 else (first + i) % 18446744073709551616) r with
      | .error e => .error e
      | .ok t => goR l0 first t (i + 1) rs
theorem step_big (s : StV) (n m : Nat) (r : RecV) (hn : 4611686018427387904 < n) (hm : 4611686018427387904 < m) : stepS s n r = stepS s m r ∧ ∀ t, stepS s n r ≠ .ok t := by
  unfold stepS
  by_cases hr : validR r
  · rw [if_neg (Decidable.not_not.2 hr), if_pos (Or.inr hn), if_neg (Decidable.not_not.2 hr), if_pos (Or.inr hm)]
    exact ⟨rfl, fun t h => by cases h⟩
  · rw [if_pos hr, if_pos hr]
    exact ⟨rfl, fun t h => by cases h⟩
theorem goR_run (l0 first : Nat) (hf : first < 18446744073709551616) (h0 : l0 ≤ 4611686018427387904) : ∀ (rs : List RecV) (s : StV) (i : Nat), l0 < first + i → i + rs.length < 18446744073709551616 → goR l0 first s i rs = runS s (first + i) rs
  | [], s, i, _, _ => by rw [goR, runS]
  | r :: rs, s, i, hl, hi => by
    simp only [List.length_cons] at hi
    rw [goR, runS]
    by_cases hw : first + i < 18446744073709551616
    · rw [Nat.mod_eq_of_lt hw, if_neg (by omega), if_neg (by omega)]
      cases stepS s (first + i) r with
      | error e => rfl
      | ok t => exact goR_run l0 first hf h0 rs t (i + 1) (by omega) (by omega)
    · have hm : (first + i) % 18446744073709551616 < first := by omega
      rw [if_neg (by omega), if_pos hm]
      have hb := step_big s 4611686018427387905 (first + i) r (by omega) (by omega)
      rw [hb.1]
      cases h : stepS s (first + i) r with
      | error e => rfl
      | ok t => exact absurd (hb.1.trans h) (hb.2 t)
theorem goR_skip (l0 first : Nat) (h0 : l0 ≤ 4611686018427387904) : ∀ (rs : List RecV) (s : StV) (i c : Nat), c ≤ rs.length → first + i + c ≤ l0 + 1 → goR l0 first s i rs = goR l0 first s (i + c) (rs.drop c)
  | [], s, i, c, hc, _ => by
    obtain rfl : c = 0 := by simpa using hc
    rfl
  | r :: rs, s, i, 0, hc, _ => rfl
  | r :: rs, s, i, c + 1, hc, hl => by
    rw [goR, Nat.mod_eq_of_lt (by omega), if_pos ⟨by omega, by omega⟩, goR_skip l0 first h0 rs s (i + 1) c (by simpa using hc) (by omega)]
    rw [List.drop_succ_cons, show i + 1 + c = i + (c + 1) by omega]
theorem goR_replay (s : StV) (first : Nat) (rs : List RecV) (hs : OkS s) (hf : first < 18446744073709551616) (h1 : first ≠ 0) (hl : rs.length < 1000000000000000000) : goR s.lsn first s 0 rs = replayS s first rs := by
  have h0 := hs.lsn
  unfold replayS
  rw [(okS_iff s).2 hs, decide_eq_true h1, Bool.true_and, if_pos rfl]
  by_cases hc : first ≤ s.lsn
  · rw [if_pos hc, goR_skip s.lsn first h0 rs s 0 (min (s.lsn - first + 1) rs.length) (Nat.min_le_right _ _) (by omega), Nat.zero_add]
    by_cases hm : s.lsn - first + 1 ≤ rs.length
    · exact goR_run s.lsn first hf h0 _ s _ (by omega) (by rw [List.length_drop]; omega)
    · have e : rs.drop (min (s.lsn - first + 1) rs.length) = [] := List.drop_of_length_le (by omega)
      rw [e, goR, runS]
  · rw [if_neg hc]
    exact goR_run s.lsn first hf h0 rs s 0 (by omega) (by omega)
end Go.Proofs.YtdddfapelencoaaDoor

set_option linter.unusedVariables false
set_option linter.unusedSimpArgs false
namespace Go.Proofs.YtdddfapelencoaaDoor
open Go Go.RowKit

/-- What Replay keeps. -/
structure Rp (B BB b8 l f N cp : Nat) (ao : Option Addr) (s : StV) (v' : Value) (w u : World) : Prop where
  a : Box u B #[V l, V f, .slice ao N cp]
  z : Box u (B + 1) #[V 0, V 0, .slice none 0 0]
  o : Box u b8 #[V s.lsn, V s.floor, v']
  own : OwnE u BB v' s.keys
  up : Up w u
  e : w.heap.size = B
  n1 : B + 1 < BB
  n2 : BB ≤ b8
  n3 : BB ≤ u.heap.size
  ok : OkS s
theorem Rp.on {B BB b8 l f N cp : Nat} {ao : Option Addr} {s : StV} {v' : Value} {w u u' : World} (h : Rp B BB b8 l f N cp ao s v' w u) (k : Up u u') : Rp B BB b8 l f N cp ao s v' w u' :=
  ⟨h.a.up k, h.z.up k, h.o.up k, h.own.up k, h.up.trans k, h.e, h.n1, h.n2, Nat.le_trans h.n3 k.size, h.ok⟩
theorem Rp.next {B BB b8 l f N cp : Nat} {ao : Option Addr} {s t : StV} {v' v'' : Value} {w u u' : World} (h : Rp B BB b8 l f N cp ao s v' w u) (ho : Box u' b8 #[V t.lsn, V t.floor, v'']) (hw : OwnE u' BB v'' t.keys) (ht : Touch u u' (Rb b8 BB u.heap.size)) (hk : OkS t) : Rp B BB b8 l f N cp ao t v'' w u' := by
  have h1 := h.n1
  have h2 := h.n2
  have h3 := h.e
  have hn : ∀ k, k < BB → k ∉ Rb b8 BB u.heap.size := fun k hk hm => by rcases Rb_mem hm with c | c <;> omega
  exact ⟨Touch.box h.a ht (hn _ (by omega)), Touch.box h.z ht (hn _ (by omega)), ho, hw, ((Touch.of_up h.up (Rb b8 BB u.heap.size)).trans ht (fun k hk => .inl hk)).up (fun k hk => by rcases Rb_mem hk with c | c <;> omega), h.e, h.n1, h.n2, Nat.le_trans h.n3 ht.size, hk⟩

set_option maxRecDepth 20000 in
set_option maxHeartbeats 6400000 in
theorem rReplay_go (ao : Option Addr) (N cp l f n : Nat) (xs : List Ent) (vr : Value) (rs : List RecV) (w : World) (q : Bool) (Z : Except Flw StV) (h : SlE w (.slice ao N cp) xs) (hN : xs.length = N) (hr : SlR w vr rs) (hrl : rs.length ≤ 140737488355328) (hn : n < 18446744073709551616)
    (hV : ∀ u, Up w u → Calls Tryd.prog 7 #[.agg #[V l, V f, .slice ao N cp]] u fun e w' => e = .returned (.bool q) ∧ Up u w') (hq : q = true → OkS ⟨l, f, xs⟩)
    (hZ : (if q = true ∧ n ≠ 0 then goR l n ⟨l, f, xs⟩ 0 rs else .error .arg) = Z) :
    Calls Tryd.prog 17 #[.agg #[V l, V f, .slice ao N cp], V n, vr] w fun e w' => AP w.heap.size w' e Z ∧ Up w w' := by
  obtain ⟨ar, cr, rfl, _, _, hrx⟩ := hr
  obtain ⟨M, hM⟩ : ∃ M, rs.length = M := ⟨_, rfl⟩
  rw [hM] at hrl ⊢
  have HM : Hid (rs.length = M ∧ M ≤ 140737488355328) := ⟨hM, hrl⟩
  have hM1 : (M : Int) ≤ 140737488355328 := by omega
  have HRX : Hid (rs ≠ [] → ∃ b o, ar = some ⟨b, o, none⟩ ∧ ∀ i (h : i < rs.length), RecAt w b (o + i * 11) rs[i]) := hrx
  have HS : Hid (SlE w (.slice ao N cp) xs ∧ xs.length = N ∧ (q = true → OkS ⟨l, f, xs⟩)) := ⟨h, hN, hq⟩
  have HV : Hid (∀ u, Up w u → Calls Tryd.prog 7 #[.agg #[V l, V f, .slice ao N cp]] u fun e w' => e = .returned (.bool q) ∧ Up u w') := hV
  have HNN : Hid (n < 18446744073709551616) := hn
  have HZ : Hid ((if q = true ∧ n ≠ 0 then goR l n ⟨l, f, xs⟩ 0 rs else .error .arg) = Z) := hZ
  have u0 : Up w ((w.alloc (.cells #[V l, V f, .slice ao N cp] 27)).alloc (.cells #[V 0, V 0, .slice none 0 0] 27)) := (Up.alloc _ _).trans (Up.alloc _ _)
  have bs : Box ((w.alloc (.cells #[V l, V f, .slice ao N cp] 27)).alloc (.cells #[V 0, V 0, .slice none 0 0] 27)) w.heap.size #[V l, V f, .slice ao N cp] := (Box.new _ _ _).alloc _
  have bo : Box ((w.alloc (.cells #[V l, V f, .slice ao N cp] 27)).alloc (.cells #[V 0, V 0, .slice none 0 0] 27)) (w.heap.size + 1) #[V 0, V 0, .slice none 0 0] := Box.newAt (by simp)
  clear h hN hV hq hrx hM hZ hrl hn
  go_enter Tryd.func17, Tryd.ntmps17
  go_upto_region 1 with fail
  generalize ((w.alloc (.cells #[V l, V f, .slice ao N cp] 27)).alloc (.cells #[V 0, V 0, .slice none 0 0] 27)) = w0 at *
  obtain ⟨B, hB⟩ : ∃ B, w.heap.size = B := ⟨_, rfl⟩
  have HB : Hid (w.heap.size = B) := hB
  rw [hB] at bs bo
  rw [hB]
  clear hB
  obtain ⟨s0, s1, s2⟩ := bs.c3
  go_wp2_with fail
  refine (HV.out _ u0).mono ?_
  rintro e w1 ⟨rfl, u1⟩
  replace u0 := u0.trans u1
  replace bs := bs.up u1
  replace bo := bo.up u1
  clear s0 s1 s2 HV u1
  obtain ⟨s0, s1, s2⟩ := bs.c3
  cases q with
  | false =>
    obtain rfl : Z = .error .arg := by rw [← HZ.out, if_neg (by simp)]
    obtain ⟨z0, z1, z2⟩ := bo.c3
    have zf := bo.frozen
    obtain ⟨wf, hwf, bf, uf⟩ : ∃ wf, wf = (((w1.setCell ⟨B + 1, 0, none⟩ (V 0)).setCell ⟨B + 1, 1, none⟩ (V 0)).setCell ⟨B + 1, 2, none⟩ (.slice none 0 0)) ∧ Box wf (B + 1) #[V 0, V 0, .slice none 0 0] ∧ Up w wf := by
      have hset : Touch w1 (((w1.setCell ⟨B + 1, 0, none⟩ (V 0)).setCell ⟨B + 1, 1, none⟩ (V 0)).setCell ⟨B + 1, 2, none⟩ (.slice none 0 0)) [B + 1] := (((Touch.refl _ [B + 1]).setCell (.inl (by simp)) 0 _).setCell (.inl (by simp)) 1 _).setCell (.inl (by simp)) 2 _
      exact ⟨_, rfl, bo.set3, ((Touch.of_up u0 [B + 1]).trans hset (fun k hk => .inl hk)).up (fun k hk => by simp only [List.mem_singleton] at hk; have := HB.out; omega)⟩
    go_wp2
    generalize hq : World.setCell _ _ _ = wq
    obtain rfl : wq = wf := hq.symm.trans hwf.symm
    clear hq hwf z0 z1 z2 zf
    obtain ⟨c0, c1, c2⟩ := bf.c3
    exact bodyPost_ret (v := .tuple #[S0R, .int .i64 1]) (by simp [results, Tryd.results17, go_sem, c0, c1, c2]) rfl ⟨rfl, uf⟩
  | true =>
    by_cases hn0 : n = 0
    · obtain rfl : Z = .error .arg := by rw [← HZ.out, if_neg (by simp [hn0])]
      subst hn0
      obtain ⟨z0, z1, z2⟩ := bo.c3
      have zf := bo.frozen
      obtain ⟨wf, hwf, bf, uf⟩ : ∃ wf, wf = (((w1.setCell ⟨B + 1, 0, none⟩ (V 0)).setCell ⟨B + 1, 1, none⟩ (V 0)).setCell ⟨B + 1, 2, none⟩ (.slice none 0 0)) ∧ Box wf (B + 1) #[V 0, V 0, .slice none 0 0] ∧ Up w wf := by
        have hset : Touch w1 (((w1.setCell ⟨B + 1, 0, none⟩ (V 0)).setCell ⟨B + 1, 1, none⟩ (V 0)).setCell ⟨B + 1, 2, none⟩ (.slice none 0 0)) [B + 1] := (((Touch.refl _ [B + 1]).setCell (.inl (by simp)) 0 _).setCell (.inl (by simp)) 1 _).setCell (.inl (by simp)) 2 _
        exact ⟨_, rfl, bo.set3, ((Touch.of_up u0 [B + 1]).trans hset (fun k hk => .inl hk)).up (fun k hk => by simp only [List.mem_singleton] at hk; have := HB.out; omega)⟩
      go_wp2
      generalize hq : World.setCell _ _ _ = wq
      obtain rfl : wq = wf := hq.symm.trans hwf.symm
      clear hq hwf z0 z1 z2 zf
      obtain ⟨c0, c1, c2⟩ := bf.c3
      exact bodyPost_ret (v := .tuple #[S0R, .int .i64 1]) (by simp [results, Tryd.results17, go_sem, c0, c1, c2]) rfl ⟨rfl, uf⟩
    have hnz : ¬ (n : Int) = 0 := by omega
    have HGO : Hid (goR l n ⟨l, f, xs⟩ 0 rs = Z) := by show _ = _; rw [← HZ.out, if_pos ⟨rfl, hn0⟩]
    have HOK : Hid (OkS ⟨l, f, xs⟩) := HS.out.2.2 rfl
    clear HZ hn0
    have hC := rCopied_any (.slice ao N cp) l f xs w1 (HS.out.1.up u0) HOK.out.len
    go_wp2_with fail
    refine hC.mono ?_
    rintro e w2 ⟨v2, rfl, o2, u1⟩
    have hz1 := bo.lt
    obtain ⟨BB, hBB⟩ : ∃ BB, w1.heap.size = BB := ⟨_, rfl⟩
    rw [hBB] at o2 hz1
    have hBu : BB ≤ w2.heap.size := by have := u1.size; omega
    replace u0 := u0.trans u1
    replace bs := bs.up u1
    replace bo := bo.up u1
    clear s0 s1 s2 u1 hC hBB
    obtain ⟨a2, n2, k2, rfl⟩ : ∃ a n c, v2 = .slice a n c := by obtain ⟨a, c, e⟩ := o2.shape; exact ⟨_, _, _, e⟩
    have uo : Up w2 (w2.alloc (.cells #[V l, V f, .slice a2 n2 k2] 27)) := Up.alloc _ _
    have bx : Box (w2.alloc (.cells #[V l, V f, .slice a2 n2 k2] 27)) w2.heap.size #[V l, V f, .slice a2 n2 k2] := Box.new _ _ _
    have HR0 : Hid (Rp B BB w2.heap.size l f N cp ao ⟨l, f, xs⟩ (.slice a2 n2 k2) w (w2.alloc (.cells #[V l, V f, .slice a2 n2 k2] 27))) :=
      ⟨bs.up uo, bo.up uo, bx, o2.up uo, u0.trans uo, HB.out, hz1, hBu, Nat.le_trans hBu uo.size, HOK.out⟩
    clear bs bo u0 uo bx o2 hz1 hBu
    go_upto_region 4 with fail
    generalize w2.alloc (.cells #[V l, V f, .slice a2 n2 k2] 27) = w3 at *
    generalize w2.heap.size = b8 at *
    go_wp2
    go_loopg [9] M (fun g8 x wr => ∃ (j : Nat) (s : StV) (v' : Value), j ≤ M ∧ g8 = M - j ∧ x = .int .i64 j ∧ Hid (Rp B BB b8 l f N cp ao s v' w wr) ∧ Hid (goR l n s j (rs.drop j) = Z))
    case atStart => exact ⟨0, _, _, by omega, rfl, rfl, HR0.out, HGO.out⟩
    case round =>
      clear HR0 HGO HS
      obtain ⟨j, s, v', hj, rfl, rfl, HF, HG⟩ := hrel
      obtain ⟨s0, s1, s2⟩ := HF.out.a.c3
      by_cases hlt : j < M
      · have hlt' : (j : Int) < (M : Int) := by omega
        have hjx : j < rs.length := by rw [HM.out.1]; exact hlt
        obtain ⟨b, o, har, hrec⟩ := HRX.out (by rintro rfl; simp at hjx)
        have hat := (hrec j hjx).up HF.out.up
        have hdr := List.drop_eq_getElem_cons hjx
        generalize rs[j]'hjx = r at hat hdr
        subst har
        have HJ : Hid (j < M) := hlt
        obtain ⟨m, hm⟩ : ∃ m, (n + j) % 18446744073709551616 = m := ⟨_, rfl⟩
        have hwj : IntKind.u64.wrap (j : Int) = (j : Int) := by have := IntKind.wrap_u64 (j : Int); have := HM.out.2; omega
        have hwm : IntKind.u64.wrap ((n : Int) + (j : Int)) = (m : Int) := by have := IntKind.wrap_u64 ((n : Int) + (j : Int)); omega
        have HG2 : Hid (Z = if n ≤ m ∧ m ≤ l then goR l n s (j + 1) (rs.drop (j + 1)) else match stepS s (if m < n then 4611686018427387905 else m) r with | .error e => .error e | .ok t => goR l n t (j + 1) (rs.drop (j + 1))) := by
          show _ = _
          rw [← HG.out, hdr, goR, hm]
          all_goals rfl
        clear hrec hjx hdr HG hm hlt hj
        by_cases hA : n ≤ m ∧ m ≤ l
        · have hge : (n : Int) ≤ (m : Int) := by omega
          have hle : (m : Int) ≤ (l : Int) := by omega
          have HG3 : Hid (goR l n s (j + 1) (rs.drop (j + 1)) = Z) := by show _ = _; rw [HG2.out, if_pos hA]
          clear HG2 hA hat
          go_wp2
          go_roundg (M - (j + 1))
          case measure => have := HJ.out; omega
          case rel => exact ⟨j + 1, s, v', HJ.out, rfl, by go_num, HF, HG3⟩
        · obtain ⟨m', hm'⟩ : ∃ m', (if m < n then 4611686018427387905 else m) = m' := ⟨_, rfl⟩
          have HG3 : Hid (Z = match stepS s m' r with | .error e => .error e | .ok t => goR l n t (j + 1) (rs.drop (j + 1))) := by show _ = _; rw [HG2.out, if_neg hA, hm']
          have hT := rstep_any b8 BB s.lsn s.floor m' v' s.keys r wr HF.out.o HF.out.own HF.out.ok HF.out.n3
          obtain ⟨R, hR⟩ : ∃ R, stepS s m' r = R := ⟨_, rfl⟩
          have HR : Hid (stepS s m' r = R) := hR
          have hT2 : Calls Tryd.prog 31 #[.pointer (some ⟨b8, 0, none⟩), V m', RV r] wr (RPost b8 BB wr R) := by rw [← hR]; exact hT
          clear HG2 hT hR
          obtain ⟨c0, c1, c2, c3, c4, c5, c6, c7, c8, c9, c10⟩ := hat
          by_cases hc : m < n
          · have hlt2 : ¬ (n : Int) ≤ (m : Int) := by omega
            have hlt3 : (m : Int) < (n : Int) := by omega
            have hlt4 : decide ((n : Int) ≤ (m : Int)) = false := decide_eq_false hlt2
            have hlt5 : decide (n ≤ m) = false := decide_eq_false (by omega)
            rw [if_pos hc] at hm'
            subst hm'
            have hT3 : Calls Tryd.prog 31 #[.pointer (some ⟨b8, 0, none⟩), .int .u64 4611686018427387905, RV r] wr (RPost b8 BB wr R) := hT2
            clear hA hc hT2
            go_wp2_with fail
            refine hT3.mono ?_
            intro e w4 hP
            clear c0 c1 c2 c3 c4 c5 c6 c7 c8 c9 c10
            cases R with
            | error x =>
              obtain ⟨rfl, u4⟩ := hP
              obtain rfl : Z = .error x := by rw [HG3.out, HR.out]
              have u5 := HF.out.up.trans u4
              have b5 := HF.out.z.up u4
              clear HF u4
              cases x
              all_goals simp only [numF]
              · skip
                obtain ⟨z0, z1, z2⟩ := b5.c3
                have zf := b5.frozen
                obtain ⟨wf, hwf, bf, uf⟩ : ∃ wf, wf = (((w4.setCell ⟨B + 1, 0, none⟩ (V 0)).setCell ⟨B + 1, 1, none⟩ (V 0)).setCell ⟨B + 1, 2, none⟩ (.slice none 0 0)) ∧ Box wf (B + 1) #[V 0, V 0, .slice none 0 0] ∧ Up w wf := by
                  have hset : Touch w4 (((w4.setCell ⟨B + 1, 0, none⟩ (V 0)).setCell ⟨B + 1, 1, none⟩ (V 0)).setCell ⟨B + 1, 2, none⟩ (.slice none 0 0)) [B + 1] := (((Touch.refl _ [B + 1]).setCell (.inl (by simp)) 0 _).setCell (.inl (by simp)) 1 _).setCell (.inl (by simp)) 2 _
                  exact ⟨_, rfl, b5.set3, ((Touch.of_up u5 [B + 1]).trans hset (fun k hk => .inl hk)).up (fun k hk => by simp only [List.mem_singleton] at hk; have := HB.out; omega)⟩
                go_wp2
                generalize hq : World.setCell _ _ _ = wq
                obtain rfl : wq = wf := hq.symm.trans hwf.symm
                clear hq hwf z0 z1 z2 zf
                obtain ⟨c0, c1, c2⟩ := bf.c3
                exact bodyPost_ret (v := .tuple #[S0R, .int .i64 1]) (by simp [results, Tryd.results17, go_sem, c0, c1, c2]) rfl ⟨rfl, uf⟩
              · skip
                obtain ⟨z0, z1, z2⟩ := b5.c3
                have zf := b5.frozen
                obtain ⟨wf, hwf, bf, uf⟩ : ∃ wf, wf = (((w4.setCell ⟨B + 1, 0, none⟩ (V 0)).setCell ⟨B + 1, 1, none⟩ (V 0)).setCell ⟨B + 1, 2, none⟩ (.slice none 0 0)) ∧ Box wf (B + 1) #[V 0, V 0, .slice none 0 0] ∧ Up w wf := by
                  have hset : Touch w4 (((w4.setCell ⟨B + 1, 0, none⟩ (V 0)).setCell ⟨B + 1, 1, none⟩ (V 0)).setCell ⟨B + 1, 2, none⟩ (.slice none 0 0)) [B + 1] := (((Touch.refl _ [B + 1]).setCell (.inl (by simp)) 0 _).setCell (.inl (by simp)) 1 _).setCell (.inl (by simp)) 2 _
                  exact ⟨_, rfl, b5.set3, ((Touch.of_up u5 [B + 1]).trans hset (fun k hk => .inl hk)).up (fun k hk => by simp only [List.mem_singleton] at hk; have := HB.out; omega)⟩
                go_wp2
                generalize hq : World.setCell _ _ _ = wq
                obtain rfl : wq = wf := hq.symm.trans hwf.symm
                clear hq hwf z0 z1 z2 zf
                obtain ⟨c0, c1, c2⟩ := bf.c3
                exact bodyPost_ret (v := .tuple #[S0R, .int .i64 11]) (by simp [results, Tryd.results17, go_sem, c0, c1, c2]) rfl ⟨rfl, uf⟩
              · skip
                obtain ⟨z0, z1, z2⟩ := b5.c3
                have zf := b5.frozen
                obtain ⟨wf, hwf, bf, uf⟩ : ∃ wf, wf = (((w4.setCell ⟨B + 1, 0, none⟩ (V 0)).setCell ⟨B + 1, 1, none⟩ (V 0)).setCell ⟨B + 1, 2, none⟩ (.slice none 0 0)) ∧ Box wf (B + 1) #[V 0, V 0, .slice none 0 0] ∧ Up w wf := by
                  have hset : Touch w4 (((w4.setCell ⟨B + 1, 0, none⟩ (V 0)).setCell ⟨B + 1, 1, none⟩ (V 0)).setCell ⟨B + 1, 2, none⟩ (.slice none 0 0)) [B + 1] := (((Touch.refl _ [B + 1]).setCell (.inl (by simp)) 0 _).setCell (.inl (by simp)) 1 _).setCell (.inl (by simp)) 2 _
                  exact ⟨_, rfl, b5.set3, ((Touch.of_up u5 [B + 1]).trans hset (fun k hk => .inl hk)).up (fun k hk => by simp only [List.mem_singleton] at hk; have := HB.out; omega)⟩
                go_wp2
                generalize hq : World.setCell _ _ _ = wq
                obtain rfl : wq = wf := hq.symm.trans hwf.symm
                clear hq hwf z0 z1 z2 zf
                obtain ⟨c0, c1, c2⟩ := bf.c3
                exact bodyPost_ret (v := .tuple #[S0R, .int .i64 12]) (by simp [results, Tryd.results17, go_sem, c0, c1, c2]) rfl ⟨rfl, uf⟩
            | ok tt =>
              obtain ⟨rfl, v4, b4, o4, t4⟩ := hP
              have HF4 : Hid (Rp B BB b8 l f N cp ao tt v4 w w4) := HF.out.next b4 o4 t4 (step_ok HF.out.ok HR.out)
              have HG4 : Hid (goR l n tt (j + 1) (rs.drop (j + 1)) = Z) := by show _ = _; rw [HG3.out, HR.out]
              clear b4 o4 t4 HF HG3 HR s0 s1 s2
              go_wp2
              go_roundg (M - (j + 1))
              case measure => have := HJ.out; omega
              case rel => exact ⟨j + 1, tt, v4, HJ.out, rfl, by go_num, HF4, HG4⟩
          · have hge : (n : Int) ≤ (m : Int) := by omega
            have hle : ¬ (m : Int) ≤ (l : Int) := by omega
            have hle2 : decide ((m : Int) ≤ (l : Int)) = false := decide_eq_false hle
            have hle3 : decide (m ≤ l) = false := decide_eq_false (by omega)
            have hlt3 : ¬ (m : Int) < (n : Int) := by omega
            have hlt4 : decide ((m : Int) < (n : Int)) = false := decide_eq_false hlt3
            have hlt5 : decide (m < n) = false := decide_eq_false (by omega)
            rw [if_neg hc] at hm'
            subst hm'
            clear hA hc
            go_wp2_with fail
            refine hT2.mono ?_
            intro e w4 hP
            clear c0 c1 c2 c3 c4 c5 c6 c7 c8 c9 c10
            cases R with
            | error x =>
              obtain ⟨rfl, u4⟩ := hP
              obtain rfl : Z = .error x := by rw [HG3.out, HR.out]
              have u5 := HF.out.up.trans u4
              have b5 := HF.out.z.up u4
              clear HF u4
              cases x
              all_goals simp only [numF]
              · skip
                obtain ⟨z0, z1, z2⟩ := b5.c3
                have zf := b5.frozen
                obtain ⟨wf, hwf, bf, uf⟩ : ∃ wf, wf = (((w4.setCell ⟨B + 1, 0, none⟩ (V 0)).setCell ⟨B + 1, 1, none⟩ (V 0)).setCell ⟨B + 1, 2, none⟩ (.slice none 0 0)) ∧ Box wf (B + 1) #[V 0, V 0, .slice none 0 0] ∧ Up w wf := by
                  have hset : Touch w4 (((w4.setCell ⟨B + 1, 0, none⟩ (V 0)).setCell ⟨B + 1, 1, none⟩ (V 0)).setCell ⟨B + 1, 2, none⟩ (.slice none 0 0)) [B + 1] := (((Touch.refl _ [B + 1]).setCell (.inl (by simp)) 0 _).setCell (.inl (by simp)) 1 _).setCell (.inl (by simp)) 2 _
                  exact ⟨_, rfl, b5.set3, ((Touch.of_up u5 [B + 1]).trans hset (fun k hk => .inl hk)).up (fun k hk => by simp only [List.mem_singleton] at hk; have := HB.out; omega)⟩
                go_wp2
                generalize hq : World.setCell _ _ _ = wq
                obtain rfl : wq = wf := hq.symm.trans hwf.symm
                clear hq hwf z0 z1 z2 zf
                obtain ⟨c0, c1, c2⟩ := bf.c3
                exact bodyPost_ret (v := .tuple #[S0R, .int .i64 1]) (by simp [results, Tryd.results17, go_sem, c0, c1, c2]) rfl ⟨rfl, uf⟩
              · skip
                obtain ⟨z0, z1, z2⟩ := b5.c3
                have zf := b5.frozen
                obtain ⟨wf, hwf, bf, uf⟩ : ∃ wf, wf = (((w4.setCell ⟨B + 1, 0, none⟩ (V 0)).setCell ⟨B + 1, 1, none⟩ (V 0)).setCell ⟨B + 1, 2, none⟩ (.slice none 0 0)) ∧ Box wf (B + 1) #[V 0, V 0, .slice none 0 0] ∧ Up w wf := by
                  have hset : Touch w4 (((w4.setCell ⟨B + 1, 0, none⟩ (V 0)).setCell ⟨B + 1, 1, none⟩ (V 0)).setCell ⟨B + 1, 2, none⟩ (.slice none 0 0)) [B + 1] := (((Touch.refl _ [B + 1]).setCell (.inl (by simp)) 0 _).setCell (.inl (by simp)) 1 _).setCell (.inl (by simp)) 2 _
                  exact ⟨_, rfl, b5.set3, ((Touch.of_up u5 [B + 1]).trans hset (fun k hk => .inl hk)).up (fun k hk => by simp only [List.mem_singleton] at hk; have := HB.out; omega)⟩
                go_wp2
                generalize hq : World.setCell _ _ _ = wq
                obtain rfl : wq = wf := hq.symm.trans hwf.symm
                clear hq hwf z0 z1 z2 zf
                obtain ⟨c0, c1, c2⟩ := bf.c3
                exact bodyPost_ret (v := .tuple #[S0R, .int .i64 11]) (by simp [results, Tryd.results17, go_sem, c0, c1, c2]) rfl ⟨rfl, uf⟩
              · skip
                obtain ⟨z0, z1, z2⟩ := b5.c3
                have zf := b5.frozen
                obtain ⟨wf, hwf, bf, uf⟩ : ∃ wf, wf = (((w4.setCell ⟨B + 1, 0, none⟩ (V 0)).setCell ⟨B + 1, 1, none⟩ (V 0)).setCell ⟨B + 1, 2, none⟩ (.slice none 0 0)) ∧ Box wf (B + 1) #[V 0, V 0, .slice none 0 0] ∧ Up w wf := by
                  have hset : Touch w4 (((w4.setCell ⟨B + 1, 0, none⟩ (V 0)).setCell ⟨B + 1, 1, none⟩ (V 0)).setCell ⟨B + 1, 2, none⟩ (.slice none 0 0)) [B + 1] := (((Touch.refl _ [B + 1]).setCell (.inl (by simp)) 0 _).setCell (.inl (by simp)) 1 _).setCell (.inl (by simp)) 2 _
                  exact ⟨_, rfl, b5.set3, ((Touch.of_up u5 [B + 1]).trans hset (fun k hk => .inl hk)).up (fun k hk => by simp only [List.mem_singleton] at hk; have := HB.out; omega)⟩
                go_wp2
                generalize hq : World.setCell _ _ _ = wq
                obtain rfl : wq = wf := hq.symm.trans hwf.symm
                clear hq hwf z0 z1 z2 zf
                obtain ⟨c0, c1, c2⟩ := bf.c3
                exact bodyPost_ret (v := .tuple #[S0R, .int .i64 12]) (by simp [results, Tryd.results17, go_sem, c0, c1, c2]) rfl ⟨rfl, uf⟩
            | ok tt =>
              obtain ⟨rfl, v4, b4, o4, t4⟩ := hP
              have HF4 : Hid (Rp B BB b8 l f N cp ao tt v4 w w4) := HF.out.next b4 o4 t4 (step_ok HF.out.ok HR.out)
              have HG4 : Hid (goR l n tt (j + 1) (rs.drop (j + 1)) = Z) := by show _ = _; rw [HG3.out, HR.out]
              clear b4 o4 t4 HF HG3 HR s0 s1 s2
              go_wp2
              go_roundg (M - (j + 1))
              case measure => have := HJ.out; omega
              case rel => exact ⟨j + 1, tt, v4, HJ.out, rfl, by go_num, HF4, HG4⟩
      · obtain rfl : j = M := by omega
        have hlt' : ¬ (j : Int) < (j : Int) := by omega
        have hC := HF.out
        obtain rfl : Z = .ok s := by rw [← HG.out, List.drop_of_length_le (by rw [HM.out.1]; exact Nat.le_refl _), goR]
        obtain ⟨a4, n4, k4, rfl⟩ : ∃ a n c, v' = .slice a n c := by obtain ⟨a, c, e⟩ := hC.own.shape; exact ⟨_, _, _, e⟩
        obtain ⟨x0, x1, x2⟩ := hC.o.c3
        obtain ⟨z0, z1, z2⟩ := hC.z.c3
        have zf := hC.z.frozen
        obtain ⟨wf, hwf, bf, uf, of⟩ : ∃ wf, wf = (((wr.setCell ⟨B + 1, 0, none⟩ (V s.lsn)).setCell ⟨B + 1, 1, none⟩ (V s.floor)).setCell ⟨B + 1, 2, none⟩ (.slice a4 n4 k4)) ∧ Box wf (B + 1) #[V s.lsn, V s.floor, .slice a4 n4 k4] ∧ Up w wf ∧ OwnE wf B (.slice a4 n4 k4) s.keys := by
          have hset : Touch wr (((wr.setCell ⟨B + 1, 0, none⟩ (V s.lsn)).setCell ⟨B + 1, 1, none⟩ (V s.floor)).setCell ⟨B + 1, 2, none⟩ (.slice a4 n4 k4)) [B + 1] := (((Touch.refl _ [B + 1]).setCell (.inl (by simp)) 0 _).setCell (.inl (by simp)) 1 _).setCell (.inl (by simp)) 2 _
          exact ⟨_, rfl, hC.z.set3, ((Touch.of_up hC.up [B + 1]).trans hset (fun k hk => .inl hk)).up (fun k hk => by simp only [List.mem_singleton] at hk; have := HB.out; omega), (hC.own.kept hset (fun k hk => by simp only [List.mem_singleton]; have := (hC.own.ge k hk).1; have := hC.n1; omega)).rebase (by have := hC.n1; omega)⟩
        obtain ⟨tl, tf, tk⟩ := s
        clear HF HG hC hlt hj HOK
        simp only at *
        go_wp2
        generalize hq : World.setCell _ _ _ = wq
        obtain rfl : wq = wf := hq.symm.trans hwf.symm
        clear hq hwf z0 z1 z2 zf x0 x1 x2 s0 s1 s2
        obtain ⟨c0, c1, c2⟩ := bf.c3
        exact bodyPost_ret (v := .tuple #[.agg #[V tl, V tf, .slice a4 n4 k4], .int .i64 0]) (by simp [results, Tryd.results17, go_sem, c0, c1, c2]) rfl ⟨⟨_, rfl, by first | exact of | (rw [HB.out]; exact of)⟩, uf⟩

theorem rReplay_any (v : Value) (l f n : Nat) (xs : List Ent) (vr : Value) (rs : List RecV) (w : World) (h : SlE w v xs) (hl : xs.length ≤ 4611686018427387903) (hxs : ∀ x ∈ xs, x.1.size ≤ 9223372036854775807) (hr : SlR w vr rs) (hrl : rs.length ≤ 140737488355328) (hn : n < 18446744073709551616) :
    Calls Tryd.prog 17 #[.agg #[V l, V f, v], V n, vr] w fun e w' => AP w.heap.size w' e (replayS ⟨l, f, xs⟩ n rs) ∧ Up w w' := by
  obtain ⟨ao, cp, rfl⟩ := h.shape
  have hV := fun u (uu : Up w u) => rValid_any _ l f xs u (h.up uu) hl hxs
  refine rReplay_go ao xs.length cp l f n xs vr rs w (okS ⟨l, f, xs⟩) _ h rfl hr hrl hn hV (fun hq => (okS_iff _).1 hq) ?_
  by_cases hq : okS ⟨l, f, xs⟩ = true ∧ n ≠ 0
  · rw [if_pos hq]
    exact goR_replay ⟨l, f, xs⟩ n rs ((okS_iff _).1 hq.1) hn hq.2 (by omega)
  · rw [if_neg hq]
    unfold replayS
    rw [if_neg (by simpa using hq)]
end Go.Proofs.YtdddfapelencoaaDoor
