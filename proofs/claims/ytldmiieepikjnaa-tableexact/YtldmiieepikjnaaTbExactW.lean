/- table: TableExact's walk. Own work. -/
import Derived.Test.YtldmiieepikjnaaTbExact
set_option linter.unusedVariables false
set_option linter.unusedSimpArgs false
namespace Go.Proofs.Ytldmiieepikjnaa
open Go Go.RowKit

theorem box4 {w : World} {k : Nat} {a b c d : Value} (h : Box w k #[a, b, c, d]) : w.cell? ⟨k, 0, none⟩ = some a ∧ w.cell? ⟨k, 1, none⟩ = some b ∧ w.cell? ⟨k, 2, none⟩ = some c ∧ w.cell? ⟨k, 3, none⟩ = some d := ⟨h.cell 0, h.cell 1, h.cell 2, h.cell 3⟩

set_option maxRecDepth 20000 in
set_option maxHeartbeats 16000000 in
theorem TableExact_any (one two : Int) (sv : Value) (qs : List OpT) (w : World) (hs : OpsT w sv qs) (hn : qs.length ≤ 3518437208780) (hk : ∀ q ∈ qs, KeyOk q.key) :
    Calls Try.prog 3 #[.int .i64 one, .int .i64 two, sv] w fun e w' => e = .returned (.bool true) ∧ Up w w' := by
  have qa := awake_any w
  obtain ⟨ao, cap, rfl, hx⟩ := hs
  have HQ : Hid (∀ i (h : i < qs.length) {w' : World}, Up w w' → ∃ b o, ao = some ⟨b, o, none⟩ ∧ OpTAt w' b (o + i * 4) qs[i] ∧ KeyOk qs[i].key) := fun i h {w'} u => by
    obtain ⟨b, o, rfl, h1⟩ := hx (by rintro rfl; simp at h)
    exact ⟨b, o, rfl, (h1 i h).up u, hk _ (List.getElem_mem h)⟩
  obtain ⟨N, hN⟩ : ∃ N, qs.length = N := ⟨_, rfl⟩
  have HN : Hid (qs.length = N) := hN
  rw [hN] at hn ⊢
  clear hx hk hN
  have hNb : (N : Int) ≤ 3518437208780 := by omega
  go_enter Try.func3, Try.ntmps3
  go_wp2_with fail
  refine qa.mono ?_
  clear qa
  rintro e w1 ⟨rfl, u1⟩
  go_wp2_with fail
  refine (NewI_any one w1).mono ?_
  rintro e w2 ⟨rfl, t1, u2⟩
  go_wp2_with fail
  refine (NewI_any two w2).mono ?_
  rintro e w3 ⟨rfl, t2, u3⟩
  go_wp2_with fail
  have uA : Up w1 (w3.alloc (.cells #[.pointer (some ⟨w1.heap.size, 0, none⟩), .pointer (some ⟨w2.heap.size, 0, none⟩), .pointer none] 26)) := (u2.trans u3).trans (Up.alloc _ _)
  have bA : Box (w3.alloc (.cells #[.pointer (some ⟨w1.heap.size, 0, none⟩), .pointer (some ⟨w2.heap.size, 0, none⟩), .pointer none] 26)) w3.heap.size #[.pointer (some ⟨w1.heap.size, 0, none⟩), .pointer (some ⟨w2.heap.size, 0, none⟩), .pointer none] := Box.new _ _ _
  have t1' := (t1.up u3).up (Up.alloc w3 (.cells #[.pointer (some ⟨w1.heap.size, 0, none⟩), .pointer (some ⟨w2.heap.size, 0, none⟩), .pointer none] 26))
  have t2' := t2.up (Up.alloc w3 (.cells #[.pointer (some ⟨w1.heap.size, 0, none⟩), .pointer (some ⟨w2.heap.size, 0, none⟩), .pointer none] 26))
  have z3 : w3.heap.size < (w3.alloc (.cells #[.pointer (some ⟨w1.heap.size, 0, none⟩), .pointer (some ⟨w2.heap.size, 0, none⟩), .pointer none] 26)).heap.size := by rw [World.size_alloc]; omega
  generalize w3.alloc (.cells #[.pointer (some ⟨w1.heap.size, 0, none⟩), .pointer (some ⟨w2.heap.size, 0, none⟩), .pointer none] 26) = w4 at uA bA t1' t2' z3 ⊢
  refine (rNew_any one w4).mono ?_
  rintro e w5 ⟨rfl, r1, u5⟩
  go_wp2_with fail
  refine (rNew_any two w5).mono ?_
  rintro e w6 ⟨rfl, r2, u6⟩
  have bB : Box (w6.alloc (.cells #[.pointer (some ⟨w4.heap.size, 0, none⟩), .pointer (some ⟨w5.heap.size, 0, none⟩), .pointer none] 29)) w6.heap.size #[.pointer (some ⟨w4.heap.size, 0, none⟩), .pointer (some ⟨w5.heap.size, 0, none⟩), .pointer none] := Box.new _ _ _
  have z12 : w1.heap.size < w2.heap.size := t1.lt
  have z23 : w2.heap.size < w3.heap.size := t2.lt
  have z45 : w4.heap.size < w5.heap.size := r1.lt
  have z56 : w5.heap.size < w6.heap.size := r2.lt
  have z01 := u1.size
  have uB := Up.alloc w6 (.cells #[.pointer (some ⟨w4.heap.size, 0, none⟩), .pointer (some ⟨w5.heap.size, 0, none⟩), .pointer none] 29)
  have E0 : Ex w w3.heap.size w6.heap.size (some ⟨w1.heap.size, 0, none⟩) (some ⟨w2.heap.size, 0, none⟩) (some ⟨w4.heap.size, 0, none⟩) (some ⟨w5.heap.size, 0, none⟩) one two 0 (w6.alloc (.cells #[.pointer (some ⟨w4.heap.size, 0, none⟩), .pointer (some ⟨w5.heap.size, 0, none⟩), .pointer none] 29)) := by
    refine ⟨[], [], [w1.heap.size, w4.heap.size], [w2.heap.size, w5.heap.size], .inr ⟨_, _, _, rfl, rfl, ((t1'.up u5).up u6).up uB, (r1.up u6).up uB, rfl⟩, .inr ⟨_, _, _, rfl, rfl, ((t2'.up u5).up u6).up uB, r2.up uB, rfl⟩, ?_, ?_, ?_, ?_, ?_, ?_, ?_, ((bA.up u5).up u6).up uB, bB, (((u1.trans uA).trans u5).trans u6).trans uB, Nat.le_refl _, Nat.le_refl _⟩
    all_goals (simp only [List.mem_cons, List.not_mem_nil, or_false, not_or])
    · rintro k (rfl | rfl) <;> omega
    · omega
    · omega
    · omega
    · omega
    · rintro k (rfl | rfl) <;> omega
    · rintro k (rfl | rfl) <;> omega
  have cA := (((bA.up u5).up u6).up uB)
  obtain ⟨a0, a1, _⟩ := cA.c3
  have HE0 : Hid (Ex w w3.heap.size w6.heap.size (some ⟨w1.heap.size, 0, none⟩) (some ⟨w2.heap.size, 0, none⟩) (some ⟨w4.heap.size, 0, none⟩) (some ⟨w5.heap.size, 0, none⟩) one two 0 (w6.alloc (.cells #[.pointer (some ⟨w4.heap.size, 0, none⟩), .pointer (some ⟨w5.heap.size, 0, none⟩), .pointer none] 29))) := E0
  clear E0 cA bA bB z12 z23 z45 z56 z01 z3 uB uA u1 u2 u3 u5 u6 t1 t2 t1' t2' r1 r2
  go_wp2_with fail
  clear a0 a1
  have E0 := HE0.out
  clear HE0
  generalize w6.alloc (.cells #[.pointer (some ⟨w4.heap.size, 0, none⟩), .pointer (some ⟨w5.heap.size, 0, none⟩), .pointer none] 29) = W0 at E0 ⊢
  generalize w3.heap.size = A at E0 ⊢
  generalize w6.heap.size = B at E0 ⊢
  generalize w4.heap.size = V1 at E0 ⊢
  generalize w5.heap.size = V2 at E0 ⊢
  have HE : Hid (Ex w A B (some ⟨w1.heap.size, 0, none⟩) (some ⟨w2.heap.size, 0, none⟩) (some ⟨V1, 0, none⟩) (some ⟨V2, 0, none⟩) one two 0 W0) := E0
  clear E0
  obtain ⟨t1, ht1⟩ : ∃ t1 : Option Addr, some ⟨w1.heap.size, 0, none⟩ = t1 := ⟨_, rfl⟩
  obtain ⟨t2, ht2⟩ : ∃ t2 : Option Addr, some ⟨w2.heap.size, 0, none⟩ = t2 := ⟨_, rfl⟩
  obtain ⟨v1, hv1⟩ : ∃ v1 : Option Addr, some ⟨V1, 0, none⟩ = v1 := ⟨_, rfl⟩
  obtain ⟨v2, hv2⟩ : ∃ v2 : Option Addr, some ⟨V2, 0, none⟩ = v2 := ⟨_, rfl⟩
  rw [ht1, ht2, hv1, hv2] at HE
  clear ht1 ht2 hv1 hv2
  go_loopg [9] N (fun g s wr => ∃ i : Nat, s = .int .i64 (i : Int) ∧ g + i = N ∧ Hid (Ex w A B t1 t2 v1 v2 one two i wr))
  case atStart => exact ⟨0, rfl, rfl, HE⟩
  case round =>
    obtain ⟨i, rfl, hgi, hE⟩ := hrel
    clear HE
    have HU : Hid (Up w wr) := by obtain ⟨X, Y, S, T, _, _, _, _, _, _, _, _, _, _, _, u, _⟩ := hE.out; exact u
    by_cases hlt : i < N
    · obtain ⟨gb, o, rfl, hop, hkey⟩ := HQ.out i (by rw [HN.out]; exact hlt) HU.out
      obtain ⟨q, hq⟩ : ∃ q, (qs[i]'(by rw [HN.out]; exact hlt)) = q := ⟨_, rfl⟩
      rw [hq] at hop hkey
      clear hq
      obtain ⟨kind, on, key, val⟩ := q
      obtain ⟨c0, c1, c2, c3⟩ := hop
      dsimp only at c0 c1 c2 c3 hkey
      obtain ⟨p, hp3, hpl⟩ := place_run on
      have hiN : (i : Int) < (N : Int) := by omega
      have hw : IntKind.i64.wrap ((i : Int) + 1) = ((i + 1 : Nat) : Int) := by rw [IntKind.wrap_i64]; omega
      have HB : Hid (gk + i = N ∧ i < N ∧ N ≤ 3518437208780) := ⟨hgi, hlt, hn⟩
      clear hgi hlt
      have bO : Box (wr.alloc (.cells #[.int .i64 kind, .int .i64 on, .string key, .int .i64 val] 31)) wr.heap.size #[.int .i64 kind, .int .i64 on, .string key, .int .i64 val] := Box.new _ _ _
      obtain ⟨o0, o1, o2, o3⟩ := box4 bO
      obtain ⟨tp, up, lim, ZZ, S, e1', e2', hP0⟩ := hE.out.pick p hp3
      have e1 := ((Up.alloc wr (.cells #[.int .i64 kind, .int .i64 on, .string key, .int .i64 val] 31)).cell (World.block_lt_of_cell? wr _ e1')).trans e1'
      have e2 := ((Up.alloc wr (.cells #[.int .i64 kind, .int .i64 on, .string key, .int .i64 val] 31)).cell (World.block_lt_of_cell? wr _ e2')).trans e2'
      have hp3' : (p : Int) < 3 := by omega
      have HP : Hid (Pick w A B t1 t2 v1 v2 one two i (wr.alloc (.cells #[.int .i64 kind, .int .i64 on, .string key, .int .i64 val] 31)) tp up lim ZZ S ∧ Box (wr.alloc (.cells #[.int .i64 kind, .int .i64 on, .string key, .int .i64 val] 31)) wr.heap.size #[.int .i64 kind, .int .i64 on, .string key, .int .i64 val] ∧ wr.heap.size ∉ S ∧ KeyOk key) :=
        ⟨hP0.up (Up.alloc _ _), bO, fun e => by have := hP0.1.lt _ e; omega, hkey⟩
      clear hE bO hP0 e1' e2' hkey
      by_cases hk1 : kind = 1
      · subst hk1
        go_wp2_with (first
          | (go_at_call 11; refine (hpl _).mono ?_; rintro e wp ⟨rfl, hwp⟩; subst hwp))
        obtain ⟨hP, bO, hGS, hkey⟩ := HP.out
        clear HP c0 c1 c2 c3 o0 o1 o2 o3 e1 e2 hpl
        generalize wr.alloc (.cells #[.int .i64 1, .int .i64 on, .string key, .int .i64 val] 31) = W1 at hP bO ⊢
        generalize wr.heap.size = G at bO hGS ⊢
        have cof : ∀ {w' : World}, Touch W1 w' S → w'.cell? ⟨G, 2, none⟩ = some (.string key) ∧ w'.cell? ⟨G, 3, none⟩ = some (.int .i64 val) := fun t => ⟨(Touch.box bO t hGS).cell 2, (Touch.box bO t hGS).cell 3⟩
        have kP := fun {w' : World} (u : Up W1 w') => PutH (hP.1.up u) key val hkey (by have := hP.2.1; have := HB.out; omega)
        have kR := fun {w' : World} {Z : List (KV Int)} (h : Half w' tp up lim Z ZZ S) => rPutH h key val hkey (by have := hP.2.1; have := HB.out; omega)
        have hlz := len_putT (lim := lim) (k := key) (v := val) hP.1.srt
        have FIN : Hid (∀ {wa wb : World}, Touch W1 wa S → HDone wa tp up lim (putT lim key val ZZ) (putT lim key val ZZ) S wb → Ex w A B t1 t2 v1 v2 one two (i + 1) wb) := fun t d => hP.done t d (by have := hP.2.1; omega)
        generalize took lim key ZZ = tk at kP kR
        generalize putT lim key val ZZ = ZP at kP kR FIN
        clear hP hlz bO hGS
        have hs := cof ((Touch.of_up (Up.drew W1) S))
        go_region_held3 (fun w' => w'.cell? ⟨G, 2, none⟩ = some (.string key) ∧ w'.cell? ⟨G, 3, none⟩ = some (.int .i64 val)) (exact hs)
          (first
          | (go_at_call 12; refine (kP (Up.drew W1)).mono ?_; clear kP hs; rintro e wa ⟨rfl, ha, ta⟩; have tb := (Touch.of_up (Up.drew W1) S).trans ta (fun k hk => .inl hk); have hs := cof tb)
          | (go_at_call 13; refine (kR ha).mono ?_; clear kR hs; rintro e wb ⟨rfl, hb⟩; have hs := cof (touch_done tb hb)))
        go_wp2_with fail
        go_roundg (N - (i + 1))
        case measure => have := HB.out; omega
        case rel => exact ⟨i + 1, by simp, by have := HB.out; omega, FIN.out tb hb⟩
      have hb1 : (kind == 1) = false := by simpa using hk1
      clear hk1
      by_cases hk2 : kind = 2
      · subst hk2
        obtain ⟨hP, bO, hGS, hkey⟩ := HP.out
        have kG := fun {w' : World} (u : Up (wr.alloc (.cells #[.int .i64 2, .int .i64 on, .string key, .int .i64 val] 31)) w') => GetH (hP.1.up u) key
        have kR := fun {w' : World} (u : Up (wr.alloc (.cells #[.int .i64 2, .int .i64 on, .string key, .int .i64 val] 31)) w') => rGetH (hP.1.up u) key hkey (by have := hP.2.1; have := HB.out; omega)
        have kL := fun {w' : World} (u : Up (wr.alloc (.cells #[.int .i64 2, .int .i64 on, .string key, .int .i64 val] 31)) w') => LenH (hP.1.up u)
        have kM := fun {w' : World} (u : Up (wr.alloc (.cells #[.int .i64 2, .int .i64 on, .string key, .int .i64 val] 31)) w') => rLenH (hP.1.up u)
        have FIN : Hid (∀ {wb : World}, Up (wr.alloc (.cells #[.int .i64 2, .int .i64 on, .string key, .int .i64 val] 31)) wb → Ex w A B t1 t2 v1 v2 one two (i + 1) wb) := fun u => hP.same u
        generalize (getL key ZZ).isSome = tk at kG kR
        generalize (getL key ZZ).getD 0 = tv at kG kR
        generalize ZZ.length = tl at kL kM
        clear hP bO hGS HP
        go_wp2_with (first
          | (go_at_call 11; refine (hpl _).mono ?_; rintro e wp ⟨rfl, hwp⟩; subst hwp)
          | (go_at_call 14; refine (kG (Up.refl _)).mono ?_; rintro e wa ⟨rfl, hwa⟩; subst hwa)
          | (go_at_call 15; refine (kR (Up.refl _)).mono ?_; rintro e wb ⟨rfl, ub⟩))
        go_roundg (N - (i + 1))
        case measure => have := HB.out; omega
        case rel => exact ⟨i + 1, by simp, by have := HB.out; omega, FIN.out ub⟩
      have hb2 : (kind == 2) = false := by simpa using hk2
      clear hk2
      by_cases hk3 : kind = 3
      · subst hk3
        go_wp2_with (first
          | (go_at_call 11; refine (hpl _).mono ?_; rintro e wp ⟨rfl, hwp⟩; subst hwp))
        obtain ⟨hP, bO, hGS, hkey⟩ := HP.out
        clear HP c0 c1 c2 c3 o0 o1 o2 o3 e1 e2 hpl
        generalize wr.alloc (.cells #[.int .i64 3, .int .i64 on, .string key, .int .i64 val] 31) = W1 at hP bO ⊢
        generalize wr.heap.size = G at bO hGS ⊢
        have cof : ∀ {w' : World}, Touch W1 w' S → w'.cell? ⟨G, 2, none⟩ = some (.string key) ∧ w'.cell? ⟨G, 3, none⟩ = some (.int .i64 val) := fun t => ⟨(Touch.box bO t hGS).cell 2, (Touch.box bO t hGS).cell 3⟩
        have kP := fun {w' : World} (u : Up W1 w') => DeleteH (hP.1.up u) key (by have := hP.2.1; have := HB.out; omega)
        have kR := fun {w' : World} {Z : List (KV Int)} (h : Half w' tp up lim Z ZZ S) => rDeleteH h key hkey (by have := hP.2.1; have := HB.out; omega)
        have hlz := len_delT (k := key) hP.1.srt
        have FIN : Hid (∀ {wa wb : World}, Touch W1 wa S → HDone wa tp up lim (delT key ZZ) (delT key ZZ) S wb → Ex w A B t1 t2 v1 v2 one two (i + 1) wb) := fun t d => hP.done t d (by have := hP.2.1; omega)
        generalize delT key ZZ = ZP at kP kR FIN
        generalize (getL key ZZ).isSome = tk at kP kR
        clear hP hlz bO hGS
        have hs := cof ((Touch.of_up (Up.drew W1) S))
        go_region_held3 (fun w' => w'.cell? ⟨G, 2, none⟩ = some (.string key) ∧ w'.cell? ⟨G, 3, none⟩ = some (.int .i64 val)) (exact hs)
          (first
          | (go_at_call 16; refine (kP (Up.drew W1)).mono ?_; clear kP hs; rintro e wa ⟨rfl, ha, ta⟩; have tb := (Touch.of_up (Up.drew W1) S).trans ta (fun k hk => .inl hk); have hs := cof tb)
          | (go_at_call 17; refine (kR ha).mono ?_; clear kR hs; rintro e wb ⟨rfl, hb⟩; have hs := cof (touch_done tb hb)))
        go_wp2_with fail
        go_roundg (N - (i + 1))
        case measure => have := HB.out; omega
        case rel => exact ⟨i + 1, by simp, by have := HB.out; omega, FIN.out tb hb⟩
      have hb3 : (kind == 3) = false := by simpa using hk3
      clear hk3
      by_cases hk4 : kind = 4
      · subst hk4
        obtain ⟨hP, bO, hGS, hkey⟩ := HP.out
        have kG := fun {w' : World} (u : Up (wr.alloc (.cells #[.int .i64 4, .int .i64 on, .string key, .int .i64 val] 31)) w') => GetH (hP.1.up u) key
        have kR := fun {w' : World} (u : Up (wr.alloc (.cells #[.int .i64 4, .int .i64 on, .string key, .int .i64 val] 31)) w') => rGetH (hP.1.up u) key hkey (by have := hP.2.1; have := HB.out; omega)
        have kL := fun {w' : World} (u : Up (wr.alloc (.cells #[.int .i64 4, .int .i64 on, .string key, .int .i64 val] 31)) w') => LenH (hP.1.up u)
        have kM := fun {w' : World} (u : Up (wr.alloc (.cells #[.int .i64 4, .int .i64 on, .string key, .int .i64 val] 31)) w') => rLenH (hP.1.up u)
        have FIN : Hid (∀ {wb : World}, Up (wr.alloc (.cells #[.int .i64 4, .int .i64 on, .string key, .int .i64 val] 31)) wb → Ex w A B t1 t2 v1 v2 one two (i + 1) wb) := fun u => hP.same u
        generalize (getL key ZZ).isSome = tk at kG kR
        generalize (getL key ZZ).getD 0 = tv at kG kR
        generalize ZZ.length = tl at kL kM
        clear hP bO hGS HP
        go_wp2_with (first
          | (go_at_call 11; refine (hpl _).mono ?_; rintro e wp ⟨rfl, hwp⟩; subst hwp)
          | (go_at_call 18; refine (kL (Up.refl _)).mono ?_; rintro e wa ⟨rfl, hwa⟩; subst hwa)
          | (go_at_call 19; refine (kM (Up.refl _)).mono ?_; rintro e wb ⟨rfl, hwb⟩; subst hwb))
        go_roundg (N - (i + 1))
        case measure => have := HB.out; omega
        case rel => exact ⟨i + 1, by simp, by have := HB.out; omega, FIN.out (Up.refl _)⟩
      have hb4 : (kind == 4) = false := by simpa using hk4
      clear hk4
      by_cases hk5 : kind = 5
      · subst hk5
        go_wp2_with (first
          | (go_at_call 11; refine (hpl _).mono ?_; rintro e wp ⟨rfl, hwp⟩; subst hwp))
        obtain ⟨hP, bO, hGS, hkey⟩ := HP.out
        clear HP c0 c1 c2 c3 o0 o1 o2 o3 e1 e2 hpl
        generalize wr.alloc (.cells #[.int .i64 5, .int .i64 on, .string key, .int .i64 val] 31) = W1 at hP bO ⊢
        generalize wr.heap.size = G at bO hGS ⊢
        have cof : ∀ {w' : World}, Touch W1 w' S → w'.cell? ⟨G, 2, none⟩ = some (.string key) ∧ w'.cell? ⟨G, 3, none⟩ = some (.int .i64 val) := fun t => ⟨(Touch.box bO t hGS).cell 2, (Touch.box bO t hGS).cell 3⟩
        have kR := fun {w' : World} (u : Up W1 w') => rAllH (hP.1.up u) (by have := hP.2.1; have := HB.out; omega)
        have kT := fun {w' : World} {vw : Value} (u : Up W1 w') (hv : SlIt w' vw ZZ) => told_any tp true ⟨#[]⟩ val ZZ vw w' (hP.1.up u).tabP (by have := hP.2.1; have := HB.out; omega) hv
        have FIN : Hid (∀ {wb : World}, Up W1 wb → Ex w A B t1 t2 v1 v2 one two (i + 1) wb) := fun u => hP.same u
        clear hP bO hGS
        have hs := cof ((Touch.of_up (Up.drew W1) S))
        go_region_held3 (fun w' => w'.cell? ⟨G, 2, none⟩ = some (.string key) ∧ w'.cell? ⟨G, 3, none⟩ = some (.int .i64 val)) (exact hs)
          (first
          | (go_at_call 21; refine (kR (Up.drew W1)).mono ?_; clear kR hs; rintro e wa ⟨va, rfl, ha, _, ua⟩; have ub := (Up.drew W1).trans ua; have hs := cof (Touch.of_up ub S))
          | (go_at_call 20; refine (kT ub ha).mono ?_; clear kT hs; rintro e wb ⟨rfl, uc⟩; have ud := ub.trans uc; have hs := cof (Touch.of_up ud S)))
        go_wp2_with fail
        go_roundg (N - (i + 1))
        case measure => have := HB.out; omega
        case rel => exact ⟨i + 1, by simp, by have := HB.out; omega, FIN.out ud⟩
      have hb5 : (kind == 5) = false := by simpa using hk5
      clear hk5
      by_cases hk6 : kind = 6
      · subst hk6
        go_wp2_with (first
          | (go_at_call 11; refine (hpl _).mono ?_; rintro e wp ⟨rfl, hwp⟩; subst hwp))
        obtain ⟨hP, bO, hGS, hkey⟩ := HP.out
        clear HP c0 c1 c2 c3 o0 o1 o2 o3 e1 e2 hpl
        generalize wr.alloc (.cells #[.int .i64 6, .int .i64 on, .string key, .int .i64 val] 31) = W1 at hP bO ⊢
        generalize wr.heap.size = G at bO hGS ⊢
        have cof : ∀ {w' : World}, Touch W1 w' S → w'.cell? ⟨G, 2, none⟩ = some (.string key) ∧ w'.cell? ⟨G, 3, none⟩ = some (.int .i64 val) := fun t => ⟨(Touch.box bO t hGS).cell 2, (Touch.box bO t hGS).cell 3⟩
        have kR := fun {w' : World} (u : Up W1 w') => rFromH (hP.1.up u) key hkey (by have := hP.2.1; have := HB.out; omega)
        have kT := fun {w' : World} {vw : Value} (u : Up W1 w') (hv : SlIt w' vw (fromL key ZZ)) => told_any tp false key val ZZ vw w' (hP.1.up u).tabP (by have := hP.2.1; have := HB.out; omega) hv
        have FIN : Hid (∀ {wb : World}, Up W1 wb → Ex w A B t1 t2 v1 v2 one two (i + 1) wb) := fun u => hP.same u
        clear hP bO hGS
        have hs := cof ((Touch.of_up (Up.drew W1) S))
        go_region_held3 (fun w' => w'.cell? ⟨G, 2, none⟩ = some (.string key) ∧ w'.cell? ⟨G, 3, none⟩ = some (.int .i64 val)) (exact hs)
          (first
          | (go_at_call 22; refine (kR (Up.drew W1)).mono ?_; clear kR hs; rintro e wa ⟨va, rfl, ha, _, ua⟩; have ub := (Up.drew W1).trans ua; have hs := cof (Touch.of_up ub S))
          | (go_at_call 20; refine (kT ub ha).mono ?_; clear kT hs; rintro e wb ⟨rfl, uc⟩; have ud := ub.trans uc; have hs := cof (Touch.of_up ud S)))
        go_wp2_with fail
        go_roundg (N - (i + 1))
        case measure => have := HB.out; omega
        case rel => exact ⟨i + 1, by simp, by have := HB.out; omega, FIN.out ud⟩
      have hb6 : (kind == 6) = false := by simpa using hk6
      clear hk6
      have FIN : Hid (Ex w A B t1 t2 v1 v2 one two (i + 1) (wr.alloc (.cells #[.int .i64 kind, .int .i64 on, .string key, .int .i64 val] 31))) := HP.out.1.same (Up.refl _)
      go_wp2_with (first
        | (go_at_call 11; refine (hpl _).mono ?_; rintro e wp ⟨rfl, hwp⟩; subst hwp))
      go_roundg (N - (i + 1))
      case measure => have := HB.out; omega
      case rel => exact ⟨i + 1, by simp, by have := HB.out; omega, FIN.out⟩
    · have hEN : i = N := by omega
      subst hEN
      have HE : Hid (Ex w A B t1 t2 v1 v2 one two i wr) := hE.out
      have hni : ¬ ((i : Int) < (i : Int)) := by omega
      have HNb : Hid (i ≤ 3518437208780) := hn
      clear hE HU hgi hlt hn HN hNb HQ
      go_wp2
      go_loopg [17] 3 (fun g s wx => ∃ j : Nat, s = .int .i64 (j : Int) ∧ g + j = 3 ∧ Hid (Ex w A B t1 t2 v1 v2 one two i wx))
      case atStart => exact ⟨0, rfl, rfl, HE⟩
      case round =>
        obtain ⟨j, rfl, hgj, hE⟩ := hrel
        clear HE
        by_cases hj : j < 3
        · obtain ⟨tp, up, lim, ZZ, S, e1, e2, hP⟩ := hE.out.pick j hj
          have hj3 : (j : Int) < 3 := by omega
          have hw : IntKind.i64.wrap ((j : Int) + 1) = ((j + 1 : Nat) : Int) := by rw [IntKind.wrap_i64]; omega
          have HB : Hid (gk + j = 3 ∧ j < 3) := ⟨hgj, hj⟩
          have hZ : ZZ.length ≤ 4000000000000 := by have := hP.2.1; have := HNb.out; omega
          have kR := fun {w' : World} (u : Up wr w') => rAllH (hP.1.up u) hZ
          have kT := fun {w' : World} {vw : Value} (u : Up wr w') (hv : SlIt w' vw ZZ) => told_any tp true ⟨#[]⟩ (-1) ZZ vw w' (hP.1.up u).tabP hZ hv
          have kL := fun {w' : World} (u : Up wr w') => LenH (hP.1.up u)
          have kM := fun {w' : World} (u : Up wr w') => rLenH (hP.1.up u)
          have sof : ∀ {w' : World}, Up wr w' → w'.cell? ⟨A, j, none⟩ = some (.pointer tp) ∧ w'.cell? ⟨B, j, none⟩ = some (.pointer up) ∧ Up wr w' := fun u => ⟨(u.cell (World.block_lt_of_cell? wr _ e1)).trans e1, (u.cell (World.block_lt_of_cell? wr _ e2)).trans e2, u⟩
          have FIN : Hid (∀ {wb : World}, Up wr wb → Ex w A B t1 t2 v1 v2 one two i wb) := fun u => hE.out.up u
          clear hP hZ hgj hj hE e1 e2
          have hs := sof (Up.drew wr)
          go_wp2_with fail
          go_region_held3 (fun w' => w'.cell? ⟨A, j, none⟩ = some (.pointer tp) ∧ w'.cell? ⟨B, j, none⟩ = some (.pointer up) ∧ Up wr w') (exact hs)
            (first
            | (go_at_call 21; refine (kR hs.2.2).mono ?_; clear kR; rintro e wa ⟨va, rfl, ha, _, ua⟩; have ub := hs.2.2.trans ua; clear hs; have hs := sof ub)
            | (go_at_call 20; refine (kT hs.2.2 ha).mono ?_; clear kT ha; rintro e wb ⟨rfl, uc⟩; have ud := hs.2.2.trans uc; clear hs; have hs := sof ud)
            | (go_at_call 18; refine (kL hs.2.2).mono ?_; clear kL; rintro e wc ⟨rfl, hwc⟩; subst hwc)
            | (go_at_call 19; refine (kM hs.2.2).mono ?_; clear kM; rintro e wc ⟨rfl, hwc⟩; subst hwc))
          all_goals
            go_wp2_with fail
            go_roundg (3 - (j + 1))
            case measure => have := HB.out; omega
            case rel => exact ⟨j + 1, by simp, by have := HB.out; omega, FIN.out hs.2.2⟩
        · have hni3 : ¬ ((j : Int) < 3) := by omega
          have HU : Hid (Up w wr) := by obtain ⟨X, Y, S, T, _, _, _, _, _, _, _, _, _, _, _, u, _⟩ := hE.out; exact u
          clear hE hgj hj
          go_wp2
          go_ret
          exact ⟨rfl, HU.out⟩
end Go.Proofs.Ytldmiieepikjnaa
