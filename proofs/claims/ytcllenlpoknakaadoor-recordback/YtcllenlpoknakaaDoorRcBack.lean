/- record: the laws RecordBack and RecordForth. -/
import Derived.Test.YtcllenlpoknakaaDoorRcLaw
set_option linter.unusedVariables false
set_option linter.unusedSimpArgs false
namespace Go.Proofs.YtcllenlpoknakaaDoor
open Go Go.RowKit

set_option maxRecDepth 20000 in
set_option maxHeartbeats 1600000 in
theorem RecordBack_no (k : Int) (f : Nat) (S : ByteArray) (pk : Int) (g s l p t i c : Nat) (w : World) (ad : Nat → Addr) (hk : RKn w ad)
    (hE : ∀ w, RKn w ad → Calls Tryd.prog 12 #[RcV k f S pk g s l p t i c] w fun e w' => e = .returned (.tuple #[.slice none 0 0, E (ad 0)]) ∧ Up w w')
    (hV : ∀ w, Calls Tryd.prog 13 #[RcV k f S pk g s l p t i c] w fun e w' => e = .returned (.bool false) ∧ Up w w') :
    Calls Tryd.prog 4 #[RcV k f S pk g s l p t i c] w fun e w' => e = .returned (.bool true) ∧ Up w w' := by
  have b0 : Box (w.alloc (.cells #[.int .i64 k, V f, .string S, .int .i64 pk, V g, V s, V l, V p, V t, V i, V c] 32)) w.heap.size #[.int .i64 k, V f, .string S, .int .i64 pk, V g, V s, V l, V p, V t, V i, V c] := Box.new _ _ _
  have u0 : Up w (w.alloc (.cells #[.int .i64 k, V f, .string S, .int .i64 pk, V g, V s, V l, V p, V t, V i, V c] 32)) := Up.alloc _ _
  go_enter Tryd.func4, Tryd.ntmps4
  go_wp2_with fail
  refine (rawake_any _ ad (hk.up u0)).mono ?_
  rintro e w1 ⟨rfl, u1⟩
  have b1 := b0.up u1
  have U1 := u0.trans u1
  clear b0 u0 u1
  obtain ⟨c0, c1, c2, c3, c4, c5, c6, c7, c8, c9, c10⟩ := b1.c11
  go_wp2_with fail
  refine (hE _ (hk.up U1)).mono ?_
  rintro e w2 ⟨rfl, u2⟩
  have b2 := b1.up u2
  have U2 := U1.trans u2
  clear b1 U1 u2 hE c0 c1 c2 c3 c4 c5 c6 c7 c8 c9 c10
  obtain ⟨c0, c1, c2, c3, c4, c5, c6, c7, c8, c9, c10⟩ := b2.c11
  go_wp2_with fail
  refine (hV _).mono ?_
  rintro e w3 ⟨rfl, u3⟩
  have U3 := U2.trans u3
  have cA := (hk.up U3).gA.cell
  have es := eq_same (ad 0)
  clear b2 U2 u3 hV hk c0 c1 c2 c3 c4 c5 c6 c7 c8 c9 c10
  go_wp2
  go_ret
  exact ⟨rfl, U3⟩

set_option maxRecDepth 20000 in
set_option maxHeartbeats 1600000 in
theorem RecordBack_yes (k : Int) (f : Nat) (S : ByteArray) (pk : Int) (g s l p t i c : Nat) (bs : List UInt8) (w : World) (ad : Nat → Addr) (hk : RKn w ad) (h12 : (12 : Int) ≤ (bs.length : Int)) (h99 : (bs.length : Int) ≤ 99)
    (hE : ∀ w, RKn w ad → Calls Tryd.prog 12 #[RcV k f S pk g s l p t i c] w fun e w' => ∃ v', e = .returned (.tuple #[v', .nilIface]) ∧ Own w' 5 w.heap.size v' bs ∧ Up w w')
    (hV : ∀ w, Calls Tryd.prog 13 #[RcV k f S pk g s l p t i c] w fun e w' => e = .returned (.bool true) ∧ Up w w')
    (hD : ∀ v w, RKn w ad → Sl 0 w v bs → Calls Tryd.prog 14 #[v] w fun e w' => e = .returned (.tuple #[RcV k f S pk g s l p t i c, .nilIface]) ∧ Up w w') :
    Calls Tryd.prog 4 #[RcV k f S pk g s l p t i c] w fun e w' => e = .returned (.bool true) ∧ Up w w' := by
  have b0 : Box (w.alloc (.cells #[.int .i64 k, V f, .string S, .int .i64 pk, V g, V s, V l, V p, V t, V i, V c] 32)) w.heap.size #[.int .i64 k, V f, .string S, .int .i64 pk, V g, V s, V l, V p, V t, V i, V c] := Box.new _ _ _
  have u0 : Up w (w.alloc (.cells #[.int .i64 k, V f, .string S, .int .i64 pk, V g, V s, V l, V p, V t, V i, V c] 32)) := Up.alloc _ _
  have hq := rec_eq k f S pk g s l p t i c
  go_enter Tryd.func4, Tryd.ntmps4
  go_wp2_with fail
  refine (rawake_any _ ad (hk.up u0)).mono ?_
  rintro e w1 ⟨rfl, u1⟩
  have b1 := b0.up u1
  have U1 := u0.trans u1
  clear b0 u0 u1
  obtain ⟨c0, c1, c2, c3, c4, c5, c6, c7, c8, c9, c10⟩ := b1.c11
  go_wp2_with fail
  refine (hE _ (hk.up U1)).mono ?_
  rintro e w2 ⟨v2, rfl, o2, u2⟩
  have b2 := b1.up u2
  have U2 := U1.trans u2
  have hs2 := own_sl0 o2
  clear b1 U1 u2 hE o2 c0 c1 c2 c3 c4 c5 c6 c7 c8 c9 c10
  have hs2' := hs2
  obtain ⟨a2, q2, rfl, _⟩ := hs2'
  obtain ⟨N, hN⟩ : ∃ N, bs.length = N := ⟨_, rfl⟩
  have HN : Hid (bs.length = N) := hN
  rw [hN] at h12 h99 hs2 ⊢
  clear hN
  obtain ⟨c0, c1, c2, c3, c4, c5, c6, c7, c8, c9, c10⟩ := b2.c11
  go_wp2_with fail
  refine (hV _).mono ?_
  rintro e w3 ⟨rfl, u3⟩
  have b3 := b2.up u3
  have U3 := U2.trans u3
  have hs3 := hs2.up u3
  clear b2 U2 u3 hV hs2 c0 c1 c2 c3 c4 c5 c6 c7 c8 c9 c10
  go_wp2_with fail
  refine (hD _ _ (hk.up U3) hs3).mono ?_
  rintro e w4 ⟨rfl, u4⟩
  have b4 := b3.up u4
  have U4 := U3.trans u4
  have z4 := b4.lt
  clear b3 U3 u4 hD hs3
  obtain ⟨c0, c1, c2, c3, c4, c5, c6, c7, c8, c9, c10⟩ := b4.c11
  go_wp2
  go_ret
  exact ⟨rfl, U4.trans (Up.alloc _ _)⟩

theorem RecordBack_any (r : RecV) (w : World) (ad : Nat → Addr) (hk : RKn w ad) (hf : Fit64 r) :
    Calls Tryd.prog 4 #[RV r] w fun e w' => e = .returned (.bool true) ∧ Up w w' := by
  have hV := RValid_any r
  by_cases hv : validR r
  · rw [decide_eq_true hv] at hV
    have hl := encR_length hv
    refine RecordBack_yes r.kind r.floor ⟨r.key.toArray⟩ r.pk r.gap r.slack r.limit r.span r.tat r.idx r.cnt (encR r) w ad hk (by omega) (by omega) (fun w _ => Encode_ok r w hf hv) hV (fun v w hk hs => ?_)
    have := RDecode_any 0 v (encR r) w _ _ hs (by omega) hk.gS hk.gF
    have e := dec_enc hv hf []
    rw [List.append_nil, if_pos rfl] at e
    rw [e] at this
    exact this
  · rw [decide_eq_false hv] at hV
    exact RecordBack_no r.kind r.floor ⟨r.key.toArray⟩ r.pk r.gap r.slack r.limit r.span r.tat r.idx r.cnt w ad hk (fun w hk => Encode_arg _ _ _ _ _ _ _ _ _ _ _ w _ hk.gA hV) hV
end Go.Proofs.YtcllenlpoknakaaDoor
