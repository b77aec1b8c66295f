/- Merged: DkOpA, SgHex, SgFmt, SgFmt2. -/
import Derived.Test.YtkfjkfpodkbkaaaGreatDoorMg23
import Derived.Deep.LoopGhost
set_option linter.unusedVariables false
set_option linter.unusedSimpArgs false
namespace Go.Proofs.YtkfjkfpodkbkaaaGreatDoor
open Go Go.RowKit Go.Maps

theorem Dsk.new_ok : Dsk.new.Ok := ⟨fun f hf => (by cases hf), fun x i h => (by cases h), fun x i h => (by cases h), fun c hc => (by cases hc), fun c hc => (by cases hc), fun c hc => (by cases hc), (by simp [Dsk.new])⟩

theorem New_any (w : World) : Calls Tryz.prog 14 #[] w fun e w' => ∃ db L, e = .returned (.pointer (some ⟨db, 0, none⟩)) ∧ DiskAt w' w.heap.size db Dsk.new L ∧ Up w w' := by
  have hmm := @run_makeMap Tryz.prog
  go_enter Tryz.func14, Tryz.ntmps14
  go_wp2
  go_ret
  obtain ⟨W1, hW1⟩ : ∃ W1, w.alloc (.map #[] 0) = W1 := ⟨_, rfl⟩
  obtain ⟨W2, hW2⟩ : ∃ W2, W1.alloc (.map #[] 0) = W2 := ⟨_, rfl⟩
  have m1 : MapIs W1 w.heap.size 0 (fun _ => none) := by rw [← hW1]; exact MapIs.made w
  have m2 : MapIs W2 W1.heap.size 0 (fun _ => none) := by rw [← hW2]; exact MapIs.made W1
  have u1 : Up w W1 := by rw [← hW1]; exact Up.alloc _ _
  have u2 : Up W1 W2 := by rw [← hW2]; exact Up.alloc _ _
  have s1 : W1.heap.size = w.heap.size + 1 := by rw [← hW1]; simp
  have s2 : W2.heap.size = w.heap.size + 1 + 1 := by rw [← hW2]; simp [s1]
  rw [hW1, hW2]
  refine ⟨_, _, rfl, ⟨w.heap.size, w.heap.size + 1, .slice none 0 0, none, [], ⟨Box.newAt s2, ?_, ⟨0, by simp [Dsk.new], ?_⟩, World.ownsRow_nil _ _ _ 3, fun _ => rfl, rfl, fun i F h => ?_, ?_, fun k hk => ?_⟩, rfl⟩, (u1.trans u2).trans (Up.alloc _ _)⟩
  · exact (m1.up u2).up (Up.alloc _ _)
  · rw [s1] at m2; exact m2.up (Up.alloc _ _)
  · simp [Dsk.new] at h
  · simp [dl, ob, Value.ownBlock]; omega
  · simp [dl, ob, Value.ownBlock] at hk; omega

theorem Copied.more {w w1 w2 : World} {B : Nat} {vd vb : Value} {c : Con} (h : Copied w w1 B vd vb c) (u : Up w1 w2) : Copied w w2 B vd vb c := ⟨h.dat.up u, h.bad.up u, h.nd, h.up.trans u⟩

set_option maxHeartbeats 800000 in
theorem Read_any (base db : Nat) (D : Dsk) (L : List Nat) (w : World) (x : Nm) (i : Nat) (F : Fil) (h : DiskAt w base db D L) (hd : D.down = false) (hx : D.seen x = some i) (hi : D.fs[i]? = some F) (hF : F.Ok) (hl : F.seen.data.length ≤ CB) (hlx : x.length ≤ maxLen) :
    Calls Tryz.prog 28 #[.pointer (some ⟨db, 0, none⟩), Sv x] w fun e w' => ∃ vd vb, e = .returned (.tuple #[vd, vb, .nilIface]) ∧ Copied w w' w.heap.size vd vb F.seen := by
  obtain ⟨bs, bf, vch, mp, fl, hV, rfl⟩ := h
  obtain ⟨Lf, hp, vs, vsb, vf, vfb, hfv, -⟩ := hV.file hi
  have hrd := ready_up db w ((hV.box.cell 5).trans (by rw [← hd]; rfl))
  have hms := missing_not db bs D.room x (nmap fl D.seen) (blk fl i) w (hV.box.cell 0) hV.see (by simp [nmap, hx]) hlx
  have hlook := hV.see.look hlx
  rw [show nmap fl D.seen x = some (blk fl i) by simp [nmap, hx]] at hlook
  have c0 : w.cell? ⟨db, 0, none⟩ = some (.map (some bs)) := hV.box.cell 0
  have c1 : w.cell? ⟨blk fl i, 1, none⟩ = some vs := hfv.box.cell 1
  have c2 : w.cell? ⟨blk fl i, 2, none⟩ = some vsb := hfv.box.cell 2
  have hfew := hF.see.few
  have hcl := clone_any vs vsb F.seen w hfv.sd.any0 hfv.sb.any0 hl (by unfold CB at hl; unfold sec at hfew; omega)
  obtain ⟨p1, q1, rfl⟩ := hfv.sd.slice
  obtain ⟨p2, q2, rfl⟩ := hfv.sb.slice
  clear hV hfv hd hx hi hF hl hp hfew hlx
  go_enter Tryz.func28, Tryz.ntmps28
  go_wp2_with fail
  refine hrd.mono ?_
  rintro e w1 ⟨rfl, hw1⟩
  obtain rfl : w = w1 := hw1.symm
  clear hrd
  go_wp2_with fail
  refine hms.mono ?_
  rintro e w2 ⟨rfl, hw2⟩
  obtain rfl : w = w2 := hw2.symm
  clear hms
  go_wp2_with fail
  refine hcl.mono ?_
  rintro e w3 ⟨vd, vb, rfl, hc3⟩
  have h3 := hc3
  obtain ⟨pd, qd, rfl⟩ := hc3.dat.slice
  obtain ⟨pb, qb, rfl⟩ := hc3.bad.slice
  have H3 : Hid (Copied w w3 w.heap.size (.slice pd F.seen.data.length qd) (.slice pb F.seen.bad.length qb) F.seen) := hc3
  clear hcl hc3 h3 c0 c1 c2 hlook
  go_wp2_with fail
  go_quiet (fail)
  go_wp2
  go_ret3
  refine ⟨_, _, rfl, ?_⟩
  exact H3.out.more ((Up.alloc _ _).trans (up_drewN _ _))

end Go.Proofs.YtkfjkfpodkbkaaaGreatDoor

set_option linter.unusedVariables false
namespace Go.Proofs.YtkfjkfpodkbkaaaGreatDoor
open Go Go.RowKit

def dig16 (n : Nat) : UInt8 := if n < 10 then UInt8.ofNat (48 + n) else UInt8.ofNat (87 + n)
def hexF : Nat → Nat → List UInt8
  | 0, _ => []
  | f + 1, x => if x < 16 then [dig16 x] else hexF f (x / 16) ++ [dig16 (x % 16)]
/-- The digits of x, below 16^16. -/
def hexB (x : Nat) : List UInt8 := hexF 16 x
theorem hexF_length : ∀ f x, x < 16 ^ f → 0 < f → 1 ≤ (hexF f x).length ∧ (hexF f x).length ≤ f
  | 0, _, _, h => by omega
  | f + 1, x, hx, _ => by
    unfold hexF
    split
    · simp
    · rename_i h
      have hf : 0 < f := by
        rcases Nat.eq_zero_or_pos f with rfl | q
        · simp at hx; omega
        · exact q
      have := hexF_length f (x / 16) (by rw [Nat.pow_succ] at hx; omega) hf
      simp; omega
/-- What is still to be written of a number. -/
theorem hexF_step (f x : Nat) (h : 16 ≤ x) : hexF (f + 1) x = hexF f (x / 16) ++ [dig16 (x % 16)] := by
  rw [hexF, if_neg (by omega)]
theorem hexF_last (f x : Nat) (h : x < 16) : hexF (f + 1) x = [dig16 x] := by rw [hexF, if_pos h]

def nameB (x : Nat) : List UInt8 := [108, 111, 103, 46] ++ List.replicate (16 - (hexB x).length) 48 ++ hexB x
theorem hexB_length (x : Nat) (h : x < 18446744073709551616) : 1 ≤ (hexB x).length ∧ (hexB x).length ≤ 16 := hexF_length 16 x (by simpa using h) (by omega)
theorem nameB_length (x : Nat) (h : x < 18446744073709551616) : (nameB x).length = 20 := by
  have := hexB_length x h
  simp [nameB]; omega
theorem nameB_ne (x : Nat) : nameB x ≠ [] := by simp [nameB]
end Go.Proofs.YtkfjkfpodkbkaaaGreatDoor

set_option linter.unusedVariables false
set_option linter.unusedSimpArgs false
namespace Go.Proofs.YtkfjkfpodkbkaaaGreatDoor
open Go Go.RowKit

theorem pow16_any (w : World) : Calls Tryz.prog 163 #[.int .i64 16] w fun e w' => e = .returned (.bool true) ∧ w' = w := by
  go_enter Tryz.func163, Tryz.ntmps163
  go_wp2
  go_ret
  exact ⟨rfl, rfl⟩
theorem tz16_any (w : World) (h : w.cell? ⟨17, 15, none⟩ = some (.int .u8 4)) : Calls Tryz.prog 164 #[.int .u64 16] w fun e w' => e = .returned (.int .i64 4) ∧ w' = w := by
  have e1 : IntKind.u64.wrap (-16) = 18446744073709551600 := by kernel_rfl
  have e2 : bits BinOp.and IntKind.u64 16 18446744073709551600 = 16 := by kernel_rfl
  have e3 : IntKind.u64.wrap 4573923408821661840 = 4573923408821661840 := by kernel_rfl
  go_enter Tryz.func164, Tryz.ntmps164
  go_wp2
  go_ret
  exact ⟨rfl, rfl⟩

/-- The digits that go_wp2 reads out of the constant string. -/
theorem dig_at (n : Nat) (h : n < 16) : (([48, 49, 50, 51, 52, 53, 54, 55, 56, 57, 97, 98, 99, 100, 101, 102] : List UInt8)[n]?) = some (dig16 n) := by
  have : ∀ k : Fin 16, (([48, 49, 50, 51, 52, 53, 54, 55, 56, 57, 97, 98, 99, 100, 101, 102] : List UInt8)[k.val]?) = some (dig16 k.val) := by decide +kernel
  exact this ⟨n, h⟩

/-- What formatBits' array holds: the digits that are written, at its end. -/
structure Dgs (W0 w : World) (b : Nat) (acc : List UInt8) : Prop where
  cells : ∃ cs : Array Value, Box w b cs ∧ cs.size = 65 ∧ cs.toList.drop (65 - acc.length) = Bv acc
  few : acc.length ≤ 16
  up : Up W0 w
  new : W0.heap.size ≤ b

theorem Dgs.put {W0 w : World} {b : Nat} {acc : List UInt8} (h : Dgs W0 w b acc) (c : UInt8) (hl : acc.length ≤ 15) : Dgs W0 (w.setCell ⟨b, 64 - acc.length, none⟩ (B c)) b (c :: acc) := by
  obtain ⟨⟨cs, hb, hs, hd⟩, hf, hu, hn⟩ := h
  refine ⟨⟨cs.setIfInBounds (64 - acc.length) (B c), hb.set _ _, by simp [hs], ?_⟩, by simp; omega, hu.setCell hn _, hn⟩
  have hs' : cs.toList.length = 65 := by simpa using hs
  rw [List.length_cons, Array.toList_setIfInBounds, show 65 - (acc.length + 1) = 64 - acc.length by omega]
  have hlt : 64 - acc.length < (cs.toList.set (64 - acc.length) (B c)).length := by rw [List.length_set, hs']; omega
  rw [List.drop_eq_getElem_cons hlt, List.getElem_set_self]
  rw [List.drop_set_of_lt (by omega), show 64 - acc.length + 1 = 65 - acc.length by omega, hd]
  rfl
theorem Dgs.sl {W0 w : World} {b : Nat} {acc : List UInt8} (h : Dgs W0 w b acc) : Sl W0.heap.size w (.slice (some ⟨b, 65 - acc.length, none⟩) acc.length acc.length) acc := by
  obtain ⟨⟨cs, hb, hs, hd⟩, hf, hu, hn⟩ := h
  refine ⟨_, _, rfl, Nat.le_refl _, (by intro e; cases e), fun _ => ⟨b, _, rfl, hn, fun i hi => ?_⟩⟩
  rw [hb.cell]
  have e : (cs.toList.drop (65 - acc.length))[i]? = some (B acc[i]) := by rw [hd]; simp [hi]
  rw [List.getElem?_drop] at e
  simpa using e

end Go.Proofs.YtkfjkfpodkbkaaaGreatDoor

set_option linter.unusedVariables false
set_option linter.unusedSimpArgs false
namespace Go.Proofs.YtkfjkfpodkbkaaaGreatDoor
open Go Go.RowKit

theorem and_15 (a : Nat) (ha : a < 18446744073709551616) : bits .and .u64 (a : Int) 15 = ((a % 16 : Nat) : Int) := by
  have h := bits_and_u64_nat a 15 ha (by omega)
  have e : a &&& 15 = a % 16 := Nat.and_two_pow_sub_one_eq_mod a 4
  rw [e] at h
  exact h

theorem arr65 : Tryz.prog.arrayLen 212 = 65 := by kernel_rfl
theorem u65 : Tryz.prog.underlying 212 = some (.array (Tryz.prog.arrayLen 212) (Tryz.prog.elem 212)) := by kernel_rfl
theorem el65 : Tryz.prog.elem 212 = 5 := by kernel_rfl
theorem slice65 (b I : Nat) (hI : I ≤ 64) (w : World) : (Instr.sliceAt 212 (.pointer (some ⟨b, 0, none⟩)) (some (.int .i64 (I : Int))) none none).run Tryz.prog w = .ok (.slice (some ⟨b, I, none⟩) (65 - I) (65 - I)) w := by
  rw [run_sliceAt_array_l w 212 ⟨b, 0, none⟩ u65 .i64 (I : Int) (by omega) (by rw [arr65]; omega), el65, size_u8, Result.andThen_ok, arr65]
  have h : ¬ (65 = I) := by omega
  simp [slicedAt, Addr.add, h]
  exact fun e => e.symm
theorem dig_run (n : Nat) (h : n < 16) (w : World) (q : IntKind) : (Instr.index 9 (.string ⟨#[48, 49, 50, 51, 52, 53, 54, 55, 56, 57, 97, 98, 99, 100, 101, 102, 103, 104, 105, 106, 107, 108, 109, 110, 111, 112, 113, 114, 115, 116, 117, 118, 119, 120, 121, 122]⟩) (.int q (n : Int))).run Tryz.prog w = .ok (B (dig16 n)) w := by
  have key : ∀ k : Fin 16, (⟨#[48, 49, 50, 51, 52, 53, 54, 55, 56, 57, 97, 98, 99, 100, 101, 102, 103, 104, 105, 106, 107, 108, 109, 110, 111, 112, 113, 114, 115, 116, 117, 118, 119, 120, 121, 122]⟩ : ByteArray)[k.val]? = some (dig16 k.val) := by decide +kernel
  have hs : (⟨#[48, 49, 50, 51, 52, 53, 54, 55, 56, 57, 97, 98, 99, 100, 101, 102, 103, 104, 105, 106, 107, 108, 109, 110, 111, 112, 113, 114, 115, 116, 117, 118, 119, 120, 121, 122]⟩ : ByteArray).size = 36 := by rfl
  rw [run_index_string (h := Tryz.underlying9), dif_pos ⟨by omega, by rw [hs]; omega⟩]
  have hk := key ⟨n, h⟩
  rw [ByteArray.getElem?_lt' _ _ (by rw [hs]; exact Nat.lt_trans h (by decide))] at hk
  have e := Option.some.inj hk
  simp only [Int.toNat_natCast]
  rw [e]

set_option maxRecDepth 20000 in
set_option maxHeartbeats 800000 in
theorem formatBits16 (x : Nat) (w : World) (hx : x < 18446744073709551616) (hT : w.cell? ⟨17, 15, none⟩ = some (.int .u8 4)) :
    Calls Tryz.prog 133 #[.slice none 0 0, .int .u64 (x : Int), .int .i64 16, .bool false, .bool false] w fun e w' => e = .returned (.tuple #[.slice none 0 0, .string ⟨(hexB x).toArray⟩]) ∧ Up w w' := by
  have hp := pow16_any
  have hx2 : (x : Int) < 18446744073709551616 := by omega
  have hx3 : (0 : Int) ≤ (x : Int) := by omega
  go_enter Tryz.func133, Tryz.ntmps133
  go_wp2_with fail
  refine (hp _).mono ?_
  rintro e w1 ⟨rfl, hw1⟩
  subst hw1
  clear hp
  obtain ⟨W1, hW1⟩ : ∃ W1, w.alloc (.cells Tryz.zeroCells212 212) = W1 := ⟨_, rfl⟩
  have hz : Box W1 w.heap.size Tryz.zeroCells212 := by rw [← hW1]; exact Box.new _ _ _
  have u1 : Up w W1 := by rw [← hW1]; exact Up.alloc _ _
  have hsz : (Tryz.zeroCells212).size = 65 := by kernel_rfl
  have H0 : Hid (Dgs w W1 w.heap.size []) := ⟨⟨_, hz, hsz, by simp [hsz]⟩, by simp, u1, Nat.le_refl _⟩
  have ht := tz16_any W1 (by rw [u1.cell (World.block_lt_of_cell? w _ hT)]; exact hT)
  obtain ⟨Bk, hBk⟩ : ∃ Bk, w.heap.size = Bk := ⟨_, rfl⟩
  rw [hBk] at H0
  clear hz u1 hsz hT
  go_wp2_with fail
  refine ht.mono ?_
  rintro e w2 ⟨rfl, hw2⟩
  subst hw2
  clear ht
  go_wp2_with fail
  go_loopg [13, 1] 16 (fun g p q wr => ∃ (acc : List UInt8) (u : Nat), g = 16 - acc.length ∧ p = .int .i64 ((65 - acc.length : Nat) : Int) ∧ q = .int .u64 (u : Int) ∧ Hid (u < 16 ^ (16 - acc.length) ∧ acc.length ≤ 15 ∧ hexB x = hexF (16 - acc.length) u ++ acc ∧ Dgs w wr Bk acc))
  case atStart => exact ⟨[], x, rfl, rfl, rfl, by simpa using hx, by simp, by simp [hexB], H0⟩
  case round =>
    clear H0
    obtain ⟨acc, u, rfl, rfl, rfl, HR⟩ := hrel
    obtain ⟨n, hn⟩ : ∃ n, acc.length = n := ⟨_, rfl⟩
    obtain ⟨I, hI⟩ : ∃ I, 64 - n = I := ⟨_, rfl⟩
    have hn15 : n ≤ 15 := by rw [← hn]; exact HR.out.2.1
    have hI65 : 65 - acc.length = I + 1 := by omega
    have hu : u < 18446744073709551616 := by
      have h1 := HR.out.1
      have h2 : (16 : Nat) ^ (16 - acc.length) ≤ 16 ^ 16 := Nat.pow_le_pow_right (by omega) (by omega)
      have h3 : (16 : Nat) ^ 16 = 18446744073709551616 := by decide
      omega
    have e15 := and_15 u hu
    have hcs : ∃ v, wr.cell? ⟨Bk, I, none⟩ = some v := by
      obtain ⟨cs, hb, hs, hd⟩ := HR.out.2.2.2.cells
      exact ⟨cs[I]'(by omega), by rw [hb.cell]; simp⟩
    obtain ⟨v0, hv0⟩ := hcs
    have hfz : wr.frozen? ⟨Bk, I, none⟩ = false := by
      obtain ⟨cs, hb, hs, hd⟩ := HR.out.2.2.2.cells
      exact hb.frozen I
    obtain ⟨M, hM⟩ : ∃ M : Nat, u % 16 = M := ⟨_, rfl⟩
    obtain ⟨U, hU⟩ : ∃ U : Nat, u / 16 = U := ⟨_, rfl⟩
    have eq1 : (u : Int) / 16 = (U : Int) := by omega
    have hM16 : (M : Int) < 16 := by omega
    have hM0 : (0 : Int) ≤ (M : Int) := by omega
    have hI64 : (I : Int) ≤ 64 := by omega
    have hI0 : (0 : Int) ≤ (I : Int) := by omega
    have ew : ((65 - acc.length : Nat) : Int) = (I : Int) + 1 := by omega
    rw [hM] at e15
    have hdg := dig_run M (by omega)
    have hdl := fun (h : u < 16) => dig_run u h
    have HQ : Hid (acc.length = n ∧ 64 - n = I ∧ n ≤ 15 ∧ u < 18446744073709551616 ∧ u % 16 = M ∧ u / 16 = U) := ⟨hn, hI, hn15, hu, hM, hU⟩
    have HX : Hid (x < 18446744073709551616) := hx
    rw [ew]
    by_cases h16 : 16 ≤ u
    · have hc1 : (16 : Int) ≤ (u : Int) := by omega
      clear hn hI hn15 hu hM hU hI65 h16 hx hx2 hx3 hdl ew
      go_wp2_with fail
      go_roundg (16 - (acc.length + 1))
      case measure => have := HQ.out; omega
      case rel =>
        obtain ⟨q1, q2, q3, q4, q5, q6⟩ := HQ.out
        obtain ⟨r1, r2, r3, r4⟩ := HR.out
        have hge : 16 ≤ u := by omega
        have hlt14 : acc.length ≤ 14 := by
          rcases Nat.lt_or_ge acc.length 15 with q | q
          · omega
          · have : acc.length = 15 := by omega
            rw [this] at r1
            simp at r1
            omega
        have hsp : 16 - acc.length = (16 - (acc.length + 1)) + 1 := by omega
        refine ⟨dig16 M :: acc, U, by simp, ?_, rfl, ?_, by simp; omega, ?_, ?_⟩
        · refine congrArg (Value.int .i64) ?_
          simp only [List.length_cons]; omega
        · rw [hsp, Nat.pow_succ] at r1
          simp only [List.length_cons]
          omega
        · rw [r3, hsp, hexF_step _ _ hge, q6, q5]
          simp
        · have := r4.put (dig16 M) r2
          rw [show 64 - acc.length = I by omega] at this
          exact this
    · have hc1 : ¬ (16 : Int) ≤ (u : Int) := by omega
      have hu16 : u < 16 := by omega
      have hd2 := hdl hu16
      have hul : (u : Int) < 16 := by omega
      have hul0 : (0 : Int) ≤ (u : Int) := by omega
      have hpt := HR.out.2.2.2.put (dig16 u) HR.out.2.1
      rw [show 64 - acc.length = I by omega] at hpt
      have hsla := slice65 Bk I (by omega) (wr.setCell ⟨Bk, I, none⟩ (B (dig16 u)))
      have hstr := sl_string hpt.sl
      have hlen1 : (dig16 u :: acc).length = n + 1 := by simp [hn]
      have h65 : 65 - (dig16 u :: acc).length = I := by rw [hlen1]; omega
      rw [hlen1] at hstr
      rw [show 65 - (n + 1) = I by omega, show n + 1 = 65 - I by omega] at hstr
      have en : ((n : Int) + 1) = 65 - (I : Int) := by omega
      have HP : Hid (Dgs w (wr.setCell ⟨Bk, I, none⟩ (B (dig16 u))) Bk (dig16 u :: acc)) := hpt
      have hfin : hexB x = dig16 u :: acc := by
        obtain ⟨r1, r2, r3, r4⟩ := HR.out
        rw [r3, show 16 - acc.length = (15 - acc.length) + 1 by omega, hexF_last _ _ hu16]
        rfl
      have HF : Hid (hexB x = dig16 u :: acc) := hfin
      clear hn hI hn15 hu hM hU hI65 h16 hx hx2 hx3 hdl ew hu16 hpt hlen1 h65 hfin
      obtain ⟨Z, hZ⟩ : ∃ Z, 65 - I = Z := ⟨_, rfl⟩
      rw [hZ] at hsla hstr
      clear hZ en
      go_wp2
      go_ret2
      rw [HF.out]
      exact ⟨rfl, HP.out.up⟩
end Go.Proofs.YtkfjkfpodkbkaaaGreatDoor
