/- Merged: RcLaw. -/
import Derived.Test.YtcllenlpoknakaaDoorMr25
import Derived.Test.YtcllenlpoknakaaDoorMr30
import Derived.Deep.DeepAppendWide
import Derived.Laws.OwnMore
import Derived.Deep.LoopGhost
set_option linter.unusedVariables false
set_option linter.unusedSimpArgs false
namespace Go.Proofs.YtcllenlpoknakaaDoor
open Go Go.RowKit

theorem wpList_bytesR {ops : Array Oper} {rest : List Oper} {o : Oper} {a : Act} {Q : Exit → Act → World → Prop} (w : World) (hgd : o.guard = none) (s x : Operand)
    (ho : o.op = .call { callee := .builtin .append, args := #[s, x], argTypes := #[33, 33] }) (base base' : Nat) (v : Value) (bs cs : List UInt8) (hs : a.eval s = v) (ad : Addr) (c : Nat)
    (hx : a.eval x = .slice (some ad) cs.length c) (how : Own w 5 base v bs) (hsx : Sl base' w (.slice (some ad) cs.length c) cs) (hbase : base ≤ w.heap.size) (hl : bs.length + cs.length ≤ 200000000000000)
    (hK : ∀ v' w', Own w' 5 base v' (bs ++ cs) → w.grownBy w' v.ownBlock → wpList Tryd.prog ops Q rest (a.put o.dst v') w') :
    wpList Tryd.prog ops Q (o :: rest) a w := by
  obtain ⟨i0, hi, hz0, hz1, hz2⟩ := info_parts Tryd.infoU8
  refine wpList_append_own_wide _ hgd s x 33 ho base 5 i0 (.int .u8 0) 1 1 Tryd.underlying33 hi hz0 hz1 hz2 rfl (by decide) v bs.length (Bv bs) hs how ad cs.length c (Bv cs) hx (by simp) ?_ (Bv_one cs) ?_ ?_ hbase ?_
  · intro j u hj
    obtain ⟨ao, cap, hv, _, _, hxx⟩ := hsx
    obtain ⟨b, o, rfl, _, ha⟩ := hxx (by rintro rfl; simp at hj)
    simp only [Value.slice.injEq] at hv
    obtain rfl := Option.some.inj hv.1
    exact ha.add j u hj
  · unfold maxLen; omega
  · omega
  · intro v' w' h1 h2 _
    exact hK v' w' (by simpa [Own] using h1) h2

theorem wpList_bytesR_any {ops : Array Oper} {rest : List Oper} {o : Oper} {a : Act} {Q : Exit → Act → World → Prop} (w : World) (hgd : o.guard = none) (s x : Operand)
    (ho : o.op = .call { callee := .builtin .append, args := #[s, x], argTypes := #[33, 33] }) (base base' : Nat) (v xv : Value) (bs cs : List UInt8) (hs : a.eval s = v)
    (hx : a.eval x = xv) (how : Own w 5 base v bs) (hsx : Sl base' w xv cs) (hbase : base ≤ w.heap.size) (hl : bs.length + cs.length ≤ 200000000000000)
    (hK : ∀ v' w', Own w' 5 base v' (bs ++ cs) → w.grownBy w' v.ownBlock → wpList Tryd.prog ops Q rest (a.put o.dst v') w') :
    wpList Tryd.prog ops Q (o :: rest) a w := by
  obtain ⟨ao, cap, rfl, hc, hn, hxx⟩ := hsx
  cases ao with
  | none =>
    obtain rfl := hn rfl
    have h0 : cs = [] := List.eq_nil_of_length_eq_zero (by omega)
    subst h0
    obtain ⟨i0, hi, hz0, hz1, hz2⟩ := info_parts Tryd.infoU8
    refine wpList_append_own_none hgd s x 33 ho base 5 i0 1 Tryd.underlying33 hi v bs.length (Bv bs) hs how hx (hK v w (by rw [List.append_nil]; exact how) (World.grownBy.refl w _))
  | some ad => exact wpList_bytesR w hgd s x ho base base' v bs cs hs ad cap hx how ⟨_, cap, rfl, hc, hn, hxx⟩ hbase hl hK

set_option maxHeartbeats 400000 in
theorem rsame_any (b1 b2 : Nat) (va vb : Value) (xs ys : List UInt8) (w : World) (ha : Sl b1 w va xs) (hb : Sl b2 w vb ys) (hl : xs.length ≤ 140737488355328) (hl2 : ys.length ≤ 140737488355328) :
    Calls Tryd.prog 15 #[va, vb] w fun e w' => e = .returned (.bool (decide (xs = ys))) ∧ ∃ n, w' = w.drewN n := by
  obtain ⟨q, hq⟩ : ∃ q, decide (xs = ys) = q := ⟨_, rfl⟩
  rw [hq]
  obtain ⟨ao, ac, rfl, _, _, hx⟩ := ha
  obtain ⟨bo, bc, rfl, _, _, hy⟩ := hb
  by_cases hlen : xs.length = ys.length
  · obtain ⟨N, hN⟩ : ∃ N, xs.length = N := ⟨_, rfl⟩
    have hN2 : ys.length = N := by rw [← hlen, hN]
    have HN : Hid (xs.length = N ∧ ys.length = N) := ⟨hN, hN2⟩
    have HQ : Hid (decide (xs = ys) = q) := hq
    have HX : Hid ((xs ≠ [] → ∃ b o, ao = some ⟨b, o, none⟩ ∧ b1 ≤ b ∧ At w b o xs) ∧ (ys ≠ [] → ∃ b o, bo = some ⟨b, o, none⟩ ∧ b2 ≤ b ∧ At w b o ys)) := ⟨hx, hy⟩
    rw [hN] at hl ⊢
    rw [hN2] at hl2 ⊢
    clear hlen hN hN2 hq hx hy hl2
    go_enter Tryd.func15, Tryd.ntmps15
    go_wp2
    go_loopg [5] N (fun g i wr => ∃ k : Nat, k ≤ N ∧ g = N - k ∧ i = .int .i64 k ∧ Hid ((∃ n, wr = w.drewN n) ∧ xs.take k = ys.take k))
    case atStart => exact ⟨0, by omega, rfl, rfl, ⟨0, rfl⟩, rfl⟩
    case round =>
      obtain ⟨k, hk, rfl, rfl, HR⟩ := hrel
      by_cases hlt : k < N
      · obtain ⟨hX, hY⟩ := HX.out
        have l1 : k < xs.length := by have := HN.out; omega
        have l2 : k < ys.length := by have := HN.out; omega
        obtain ⟨b, o, rfl, _, ha⟩ := hX (by rintro rfl; simp at l1)
        obtain ⟨b', o', rfl, _, hb⟩ := hY (by rintro rfl; simp at l2)
        have c1 := ha k l1
        have c2 := hb k l2
        have t1 := List.take_succ_eq_append_getElem l1
        have t2 := List.take_succ_eq_append_getElem l2
        obtain ⟨x, hxk⟩ : ∃ x, xs[k]'l1 = x := ⟨_, rfl⟩
        obtain ⟨y, hyk⟩ : ∃ y, ys[k]'l2 = y := ⟨_, rfl⟩
        obtain ⟨n0, hn0⟩ := HR.out.1
        have hup : Up w wr := by rw [hn0]; exact up_drewN _ _
        have HN0 : Hid (wr = w.drewN n0) := hn0
        clear hn0
        have HK : Hid (xs[k]? = some x ∧ ys[k]? = some y) := ⟨by rw [List.getElem?_eq_getElem l1, hxk], by rw [List.getElem?_eq_getElem l2, hyk]⟩
        rw [hxk] at c1 t1
        rw [hyk] at c2 t2
        have d1 : wr.cell? ⟨b, o + k, none⟩ = some (.int .u8 (x.toNat : Int)) := by rw [hup.cell (World.block_lt_of_cell? w _ c1)]; exact c1
        have d2 : wr.cell? ⟨b', o' + k, none⟩ = some (.int .u8 (y.toNat : Int)) := by rw [hup.cell (World.block_lt_of_cell? w _ c2)]; exact c2
        have Hlt : Hid (k < N) := hlt
        by_cases hxy : x = y
        · have Hst : Hid (xs.take (k + 1) = ys.take (k + 1)) := by show _ = _; rw [t1, t2, HR.out.2, hxy]
          subst hxy
          clear hX hY ha hb c1 c2 t1 t2 hxk hyk l1 l2 HK HR
          go_wp2_with fail
          go_quiet (fail)
          go_wp2
          go_roundg (N - (k + 1))
          case measure => have := Hlt.out; omega
          case rel => exact ⟨k + 1, Hlt.out, rfl, by go_num, ⟨n0 + nq, by rw [HN0.out, World.drewN_drewN]⟩, Hst.out⟩
        · have hfin : q = false := by
            rw [← HQ.out]
            refine decide_eq_false (fun h => hxy ?_)
            have hk := HK.out
            rw [h, hk.2] at hk
            exact (Option.some.inj hk.1).symm
          subst hfin
          have hne : ((x.toNat : Int) == (y.toNat : Int)) = false := by
            have : x.toNat ≠ y.toNat := fun h => hxy (UInt8.toNat_inj.1 h)
            simp only [beq_eq_false_iff_ne]; omega
          clear hX hY ha hb c1 c2 t1 t2 hxk hyk l1 l2 HK HR HQ hxy
          go_wp2_with fail
          go_quiet (fail)
          go_wp2
          go_ret
          exact ⟨rfl, n0 + nq, by rw [HN0.out, World.drewN_drewN]⟩
      · obtain rfl : k = N := by omega
        have hfin : q = true := by
          rw [← HQ.out]
          have h := HR.out.2
          rw [List.take_of_length_le (by rw [HN.out.1]; omega), List.take_of_length_le (by rw [HN.out.2]; omega)] at h
          exact decide_eq_true h
        subst hfin
        have hup := show Hid _ from HR.out.1
        clear HR HQ HN HX
        go_wp2
        go_ret
        exact ⟨rfl, hup.out⟩
  · have hfin : q = false := by rw [← hq]; exact decide_eq_false (fun h => hlen (by rw [h]))
    subst hfin
    obtain ⟨N, hN⟩ : ∃ N, xs.length = N := ⟨_, rfl⟩
    obtain ⟨M, hM⟩ : ∃ M, ys.length = M := ⟨_, rfl⟩
    rw [hN] at hlen hl ⊢
    rw [hM] at hlen hl2 ⊢
    have hne : ((N : Int) == (M : Int)) = false := by simp only [beq_eq_false_iff_ne]; omega
    clear hN hM hq hx hy hlen
    go_enter Tryd.func15, Tryd.ntmps15
    go_wp2
    go_ret
    exact ⟨rfl, 0, rfl⟩

theorem drewR_up {w w' : World} (h : ∃ n, w' = w.drewN n) : Up w w' := by
  obtain ⟨n, rfl⟩ := h
  exact up_drewN _ _
/-- A row that was made empty. -/
theorem own_none (w : World) : Own (w.alloc (.cells #[] 5)) 5 w.heap.size (.slice (some ⟨w.heap.size, 0, none⟩) 0 0) [] :=
  ⟨rfl, .inr ⟨w.heap.size, 0, #[], rfl, Nat.le_refl _, heap_alloc_new _ _, Nat.le_refl _, by unfold maxLen; omega, rfl, rfl⟩⟩
/-- Behind an append to a row made since w0: all that is old stays. -/
theorem grownR_up {w0 w w' : World} {base : Nat} {v : Value} {bs : List UInt8} (h : Up w0 w) (ho : Own w 5 base v bs) (hb : w0.heap.size ≤ base) (hg : w.grownBy w' v.ownBlock) : Up w0 w' :=
  Below.grown h hg h.size (fun k hk => Nat.le_trans hb (World.ownsRow.lt ho k hk).1)

theorem rec_eq (k : Int) (f : Nat) (S : ByteArray) (pk : Int) (g s l p t i c : Nat) (u : World) : (binOp .eql 32 (RcV k f S pk g s l p t i c) (RcV k f S pk g s l p t i c)).run Tryd.prog u = .ok (.bool true) u := by
  simp [go_sem]
theorem rec_ne (k : Int) (f : Nat) (S : ByteArray) (pk : Int) (g s l p t i c : Nat) (u : World) : (binOp .neq 32 (RcV k f S pk g s l p t i c) (RcV k f S pk g s l p t i c)).run Tryd.prog u = .ok (.bool false) u := by
  simp [go_sem]
theorem zero_eq (u : World) : (binOp .eql 32 (.agg Zs) (.agg Zs)).run Tryd.prog u = .ok (.bool true) u := by
  simp [go_sem]
theorem zero_ne (u : World) : (binOp .neq 32 (.agg Zs) (.agg Zs)).run Tryd.prog u = .ok (.bool false) u := by
  simp [go_sem]

/-- The errors that the laws know. -/
abbrev recErrs : List Nat := [0, 1, 2]
structure RKn (w : World) (ad : Nat → Addr) : Prop where
  er : ErrSet recErrs errTxt w ad
theorem RKn.up {w w' : World} {ad : Nat → Addr} (h : RKn w ad) (u : Up w w') : RKn w' ad := ⟨h.er.up u⟩
theorem rec_sub : ∀ g ∈ recErrs, g ∈ allErrs := by decide
theorem RKn.gA {w : World} {ad : Nat → Addr} (h : RKn w ad) : Gl w 0 (ad 0) := (h.er _ (by simp)).1
theorem RKn.gS {w : World} {ad : Nat → Addr} (h : RKn w ad) : Gl w 1 (ad 1) := (h.er _ (by simp)).1
theorem RKn.gF {w : World} {ad : Nat → Addr} (h : RKn w ad) : Gl w 2 (ad 2) := (h.er _ (by simp)).1
theorem RKn.ne {w : World} {ad : Nat → Addr} (h : RKn w ad) (g k : Nat) (hg : g ∈ recErrs) (hk : k ∈ recErrs) (hne : g ≠ k) : (binOp .eql 37 (E (ad g)) (E (ad k))).run Tryd.prog w = .ok (.bool false) w :=
  eq_other (h.er g hg).2 (h.er k hk).2 (errTxt_unlike g (rec_sub g hg) k (rec_sub k hk) hne)

abbrev wantR : RecV := ⟨2, 5, [107], 0, 0, 0, 0, 0, 0, 0, 0⟩
theorem want_fit : Fit64 wantR := by constructor <;> decide
theorem want_ok : validR wantR := by decide
theorem want_enc : encR wantR = [2, 5, 0, 0, 0, 0, 0, 0, 0, 1, 0, 107] := by decide +kernel
theorem want_dec : decR [2, 5, 0, 0, 0, 0, 0, 0, 0, 1, 0, 107] = .ok wantR := by
  have := dec_enc want_ok want_fit []
  rw [List.append_nil, want_enc, if_pos rfl] at this
  exact this
abbrev wantV : Value := RcV 2 5 ⟨#[107]⟩ 0 0 0 0 0 0 0 0
abbrev wantC : Array Value := #[.int .i64 2, .int .u64 5, .string ⟨#[107]⟩, .int .i64 0, Z, Z, Z, Z, Z, Z, Z]
set_option maxHeartbeats 1600000 in
theorem rawake_any (w : World) (ad : Nat → Addr) (hk : RKn w ad) : Calls Tryd.prog 9 #[] w fun e w' => e = .returned (.bool true) ∧ Up w w' := by
  have hE : ∀ w, Calls Tryd.prog 12 #[.agg wantC] w fun e w' => ∃ v', e = .returned (.tuple #[v', .nilIface]) ∧ Own w' 5 w.heap.size v' [2, 5, 0, 0, 0, 0, 0, 0, 0, 1, 0, 107] ∧ Up w w' := fun w => by
    have := Encode_ok wantR w want_fit want_ok
    rw [want_enc] at this
    exact this
  have hV : ∀ w, Calls Tryd.prog 13 #[.agg wantC] w fun e w' => e = .returned (.bool true) ∧ Up w w' := fun w => by
    have := RValid_any wantR w
    rw [decide_eq_true want_ok] at this
    exact this
  have hD : ∀ base v w, RKn w ad → Sl base w v [2, 5, 0, 0, 0, 0, 0, 0, 0, 1, 0, 107] → Calls Tryd.prog 14 #[v] w fun e w' => e = .returned (.tuple #[.agg wantC, .nilIface]) ∧ Up w w' := fun base v w hk hs => by
    have := RDecode_any base v _ w _ _ hs (by simp) hk.gS hk.gF
    rw [want_dec] at this
    exact this
  have b0 : Box (w.alloc (.cells wantC 32)) w.heap.size wantC := Box.new _ _ _
  go_enter Tryd.func9, Tryd.ntmps9
  go_wp2_with fail
  refine (hE _).mono ?_
  rintro e w1 ⟨v1, rfl, o1, u1⟩
  have b1 := b0.up u1
  have U1 := (Up.alloc w (.cells wantC 32)).trans u1
  have z1 := b1.lt
  clear b0 u1 hE
  obtain ⟨c0, c1, c2, c3, c4, c5, c6, c7, c8, c9, c10⟩ := b1.c11
  go_wp2_with fail
  have hs := rsame_any _ _ v1 _ _ _ (w1.alloc (.cells (Bv [2, 5, 0, 0, 0, 0, 0, 0, 0, 1, 0, 107]).toArray 5)) ((own_sl0 o1).up (Up.alloc _ _)) (sl_new w1 [2, 5, 0, 0, 0, 0, 0, 0, 0, 1, 0, 107] 5) (by simp) (by simp)
  rw [decide_eq_true rfl] at hs
  refine hs.mono ?_
  rintro e w2 ⟨rfl, hw2⟩
  have u2 := (Up.alloc w1 (.cells (Bv [2, 5, 0, 0, 0, 0, 0, 0, 0, 1, 0, 107]).toArray 5)).trans (drewR_up hw2)
  have b2 := b1.up u2
  have U2 := U1.trans u2
  have s2 := (own_sl0 o1).up u2
  clear hs hw2 u2 b1 U1 o1 c0 c1 c2 c3 c4 c5 c6 c7 c8 c9 c10
  go_wp2_with fail
  refine (hD 0 v1 w2 (hk.up U2) s2).mono ?_
  rintro e w3 ⟨rfl, u3⟩
  have b3 := b2.up u3
  have U3 := U2.trans u3
  have z3 := b3.lt
  clear s2 b2 U2 u3 hD
  obtain ⟨c0, c1, c2, c3, c4, c5, c6, c7, c8, c9, c10⟩ := b3.c11
  go_wp2_with fail
  refine (hV _).mono ?_
  rintro e w4 ⟨rfl, u4⟩
  go_wp2
  go_ret
  exact ⟨rfl, U3.trans ((Up.alloc _ _).trans u4)⟩
end Go.Proofs.YtcllenlpoknakaaDoor
