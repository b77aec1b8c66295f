/- The law PolicyFace returns true for every input, and changes nothing that was there. -/
import Derived.Test.YthpcjhihifhmgaaPlAwake
set_option linter.unusedVariables false
namespace Go.Proofs.Ythpcjhihifhmgaa
open Go Go.RowKit

/-- An Ask as a value. -/
abbrev Ak (k : Int) (g s l p t i c t' i' c' now n : Nat) : Value := .agg #[.int .i64 k, V g, V s, V l, V p, V t, V i, V c, V t', V i', V c', V now, V n]

/-- What the rules themselves answer, of a policy that isn't valid, of a Flow, of a Grid. -/
structure FaceN (vd ok : Bool) (x y z R L : Nat) : Prop where
  evd : vd = false
  eok : ok = false
  ex : x = 0
  ey : y = 0
  ez : z = 0
  eR : R = 18446744073709551615
  eL : L = 0
structure FaceF (k : Int) (g s t now n : Nat) (vd ok : Bool) (x y z R L : Nat) : Prop where
  evd : vd = true
  ek : k = 1
  ey : y = 0
  ez : z = 0
  eR : ok = true → R = 0
  ka : ∀ w, Calls Try.prog 13 #[V g, V s, V t, V now, V n] w fun e w' => e = .returned (.tuple #[V x, .bool ok]) ∧ Up w w'
  kr : ok = false → ∀ w, Calls Try.prog 14 #[V g, V s, V t, V now, V n] w fun e w' => e = .returned (V R) ∧ Up w w'
  kb : ∀ w, Calls Try.prog 15 #[V g, V s, V t, V now] w fun e w' => e = .returned (V L) ∧ w' = w
structure FaceG (k : Int) (l p i c now n : Nat) (vd ok : Bool) (x y z R L : Nat) : Prop where
  evd : vd = true
  ek : k = 2
  ex : x = 0
  eR : ok = true → R = 0
  ka : ∀ w, Calls Try.prog 16 #[V l, V p, V i, V c, V now, V n] w fun e w' => e = .returned (.tuple #[V y, V z, .bool ok]) ∧ w' = w
  kr : ok = false → ∀ w, Calls Try.prog 17 #[V l, V p, V i, V c, V now, V n] w fun e w' => e = .returned (V R) ∧ Up w w'
  kb : ∀ w, Calls Try.prog 18 #[V l, V p, V i, V c, V now] w fun e w' => e = .returned (V L) ∧ w' = w

set_option maxRecDepth 20000 in
set_option maxHeartbeats 6400000 in
theorem face_walk (k : Int) (g s l p t i c t' i' c' now n x y z R L : Nat) (ok vd : Bool)
    (ka : ∀ w, Calls Try.prog 10 #[Pv k g s l p, Lv t i c, V now, V n] w fun e w' => e = .returned (.tuple #[Lv x y z, .bool ok, V R]) ∧ Up w w')
    (kl : ∀ w, Calls Try.prog 11 #[Pv k g s l p, Lv t i c, V now] w fun e w' => e = .returned (V L) ∧ Up w w')
    (kv : ∀ w, Calls Try.prog 12 #[Pv k g s l p] w fun e w' => e = .returned (.bool vd) ∧ Up w w')
    (hc : Hid (FaceN vd ok x y z R L ∨ FaceF k g s t now n vd ok x y z R L ∨ FaceG k l p i c now n vd ok x y z R L)) (w : World) :
    Calls Try.prog 4 #[Ak k g s l p t i c t' i' c' now n] w fun e w' => e = .returned (.bool true) ∧ Up w w' := by
  go_enter Try.func4, Try.ntmps4
  go_wp2_with fail
  refine (awake_any _).mono ?_
  rintro e w1 ⟨rfl, u1⟩
  have bA : Box w1 w.heap.size #[.int .i64 k, V g, V s, V l, V p, V t, V i, V c, V t', V i', V c', V now, V n] := (Box.new _ _ _).up u1
  have v1 := (Up.alloc _ _).trans u1
  clear u1
  obtain ⟨c0, c1, c2, c3, c4, c5, c6, c7, c8, c9, c10, c11, c12⟩ := bA.c13
  have zA := bA.lt
  generalize w.heap.size = B at *
  go_wp2_with fail
  refine (ka _).mono ?_
  rintro e w2 ⟨rfl, u2⟩
  have bP : Box w2 w1.heap.size #[.int .i64 k, V g, V s, V l, V p] := ((Box.new _ _ _).alloc _).up u2
  have bV : Box w2 (w1.heap.size + 1) #[V t, V i, V c] := (Box.newAt (by simp)).up u2
  have v2 := (up2 _ _ _).trans u2
  replace bA := bA.up v2
  replace v1 := v1.trans v2
  clear u2 v2 ka c0 c1 c2 c3 c4 c5 c6 c7 c8 c9 c10 c11 c12
  generalize w1.heap.size = D at *
  obtain ⟨c0, c1, c2, c3, c4, c5, c6, c7, c8, c9, c10, c11, c12⟩ := bA.c13
  obtain ⟨p0, p1, p2, p3, p4⟩ := bP.c5
  obtain ⟨d0, d1, d2⟩ := bV.c3
  replace zA := bA.lt
  have zP := bP.lt
  have zV := bV.lt
  go_wp2_with fail
  refine (kl _).mono ?_
  rintro e w3 ⟨rfl, u3⟩
  have bN : Box w3 w2.heap.size #[V x, V y, V z] := (Box.new _ _ _).up u3
  have v2 := (Up.alloc _ _).trans u3
  replace bA := bA.up v2
  replace bP := bP.up v2
  replace bV := bV.up v2
  replace v1 := v1.trans v2
  clear u3 v2 kl c0 c1 c2 c3 c4 c5 c6 c7 c8 c9 c10 c11 c12 p0 p1 p2 p3 p4 d0 d1 d2 zA zP zV
  generalize w2.heap.size = E at *
  obtain ⟨p0, p1, p2, p3, p4⟩ := bP.c5
  go_wp2_with fail
  refine (kv _).mono ?_
  rintro e w4 ⟨rfl, u4⟩
  replace bA := bA.up u4
  replace bP := bP.up u4
  replace bV := bV.up u4
  replace bN := bN.up u4
  replace v1 := v1.trans u4
  clear u4 kv p0 p1 p2 p3 p4
  obtain ⟨p0, p1, p2, p3, p4⟩ := bP.c5
  obtain ⟨d0, d1, d2⟩ := bV.c3
  obtain ⟨n0, n1, n2⟩ := bN.c3
  obtain ⟨c11, c12⟩ := bA.c13e
  rcases hc.out with h | h | h
  · obtain ⟨rfl, rfl, rfl, rfl, rfl, rfl, rfl⟩ := h
    clear hc
    go_wp2
    go_ret
    exact ⟨rfl, v1⟩
  · obtain ⟨rfl, rfl, rfl, rfl, hR, k1, k2, k3⟩ := h
    clear hc
    go_wp2_with fail
    refine (k1 _).mono ?_
    rintro e w5 ⟨rfl, u5⟩
    replace bA := bA.up u5
    replace bP := bP.up u5
    replace bV := bV.up u5
    replace bN := bN.up u5
    replace v1 := v1.trans u5
    clear u5 k1 p0 p1 p2 p3 p4 d0 d1 d2 n0 n1 n2 c11 c12
    obtain ⟨p0, p1, p2, p3, p4⟩ := bP.c5
    obtain ⟨d0, d1, d2⟩ := bV.c3
    obtain ⟨n0, n1, n2⟩ := bN.c3
    obtain ⟨c11, c12⟩ := bA.c13e
    cases ok
    · replace k2 := k2 rfl
      clear hR
      go_wp2_with fail
      refine (k2 _).mono ?_
      rintro e w6 ⟨rfl, u6⟩
      replace bA := bA.up u6
      replace bP := bP.up u6
      replace bV := bV.up u6
      replace bN := bN.up u6
      replace v1 := v1.trans u6
      clear u6 k2 p0 p1 p2 p3 p4 d0 d1 d2 n0 n1 n2 c11 c12
      obtain ⟨p0, p1, p2, p3, p4⟩ := bP.c5
      obtain ⟨d0, d1, d2⟩ := bV.c3
      obtain ⟨n0, n1, n2⟩ := bN.c3
      obtain ⟨c11, c12⟩ := bA.c13e
      by_cases hz : R = 0
      · subst hz
        go_wp2_with fail
        refine (k3 _).mono ?_
        rintro e w7 ⟨rfl, rfl⟩
        go_wp2
        go_ret
        exact ⟨rfl, v1⟩
      · have hz' := ne_int R hz
        clear hz
        go_wp2_with fail
        refine (k3 _).mono ?_
        rintro e w7 ⟨rfl, rfl⟩
        go_wp2
        go_ret
        exact ⟨rfl, v1⟩
    · obtain rfl := hR rfl
      clear k2
      go_wp2_with fail
      refine (k3 _).mono ?_
      rintro e w7 ⟨rfl, rfl⟩
      go_wp2
      go_ret
      exact ⟨rfl, v1⟩
  · obtain ⟨rfl, rfl, rfl, hR, k1, k2, k3⟩ := h
    clear hc
    go_wp2_with fail
    refine (k1 _).mono ?_
    rintro e w5 ⟨rfl, rfl⟩
    cases ok
    · replace k2 := k2 rfl
      clear hR
      go_wp2_with fail
      refine (k2 _).mono ?_
      rintro e w6 ⟨rfl, u6⟩
      replace bA := bA.up u6
      replace bP := bP.up u6
      replace bV := bV.up u6
      replace bN := bN.up u6
      replace v1 := v1.trans u6
      clear u6 k2 p0 p1 p2 p3 p4 d0 d1 d2 n0 n1 n2 c11 c12 k1
      obtain ⟨p0, p1, p2, p3, p4⟩ := bP.c5
      obtain ⟨d0, d1, d2⟩ := bV.c3
      obtain ⟨n0, n1, n2⟩ := bN.c3
      obtain ⟨c11, c12⟩ := bA.c13e
      by_cases hz : R = 0
      · subst hz
        go_wp2_with fail
        refine (k3 _).mono ?_
        rintro e w7 ⟨rfl, rfl⟩
        go_wp2
        go_ret
        exact ⟨rfl, v1⟩
      · have hz' := ne_int R hz
        clear hz
        go_wp2_with fail
        refine (k3 _).mono ?_
        rintro e w7 ⟨rfl, rfl⟩
        go_wp2
        go_ret
        exact ⟨rfl, v1⟩
    · obtain rfl := hR rfl
      clear k2
      go_wp2_with fail
      refine (k3 _).mono ?_
      rintro e w7 ⟨rfl, rfl⟩
      go_wp2
      go_ret
      exact ⟨rfl, v1⟩

theorem PolicyFace_any (k : Int) (g s l p t i c t' i' c' now n : Nat) (hg : N64 g) (hs : N64 s) (hl : N64 l) (hp : N64 p) (ht : N64 t) (hi : N64 i) (hc : N64 c) (hw : N64 now) (hn : N64 n) (w : World) :
    Calls Try.prog 4 #[Ak k g s l p t i c t' i' c' now n] w fun e w' => e = .returned (.bool true) ∧ Up w w' := by
  have ka := admit_call ⟨k, g, s, l, p⟩ ⟨t, i, c⟩ now n ⟨hg, hs, hl, hp⟩ ⟨ht, hi, hc⟩ hw hn
  have kl := left_call ⟨k, g, s, l, p⟩ ⟨t, i, c⟩ now ⟨hg, hs, hl, hp⟩ ⟨ht, hi, hc⟩ hw
  have kv := valid_call ⟨k, g, s, l, p⟩
  refine face_walk k g s l p t i c t' i' c' now n _ _ _ _ _ _ _ ka kl kv ?_ w
  by_cases hF : Pol.F ⟨k, g, s, l, p⟩
  · refine Or.inr (Or.inl ⟨decide_eq_true (Or.inl hF), hF.1, ?_, ?_, fun h => if_pos h, ?_, fun h => ?_, ?_⟩)
    · rw [show pNew ⟨k, g, s, l, p⟩ ⟨t, i, c⟩ now n = _ from if_pos hF]
    · rw [show pNew ⟨k, g, s, l, p⟩ ⟨t, i, c⟩ now n = _ from if_pos hF]
    · rw [show pNew ⟨k, g, s, l, p⟩ ⟨t, i, c⟩ now n = _ from if_pos hF, show pOk ⟨k, g, s, l, p⟩ ⟨t, i, c⟩ now n = _ from if_pos hF]
      exact Admit_any g s t now n hg hs ht hw hn
    · unfold pRetry
      rw [h, show pRule ⟨k, g, s, l, p⟩ ⟨t, i, c⟩ now n = _ from if_pos hF]
      exact Retry_any g s t now n hg hs ht hw hn
    · rw [show pLeft ⟨k, g, s, l, p⟩ ⟨t, i, c⟩ now = _ from if_pos hF]
      exact Burst_any g s t now hg hs ht hw
  · by_cases hG : Pol.G ⟨k, g, s, l, p⟩
    · refine Or.inr (Or.inr ⟨decide_eq_true (Or.inr hG), hG.1, ?_, fun h => if_pos h, ?_, fun h => ?_, ?_⟩)
      · unfold pNew; rw [if_neg hF, if_pos hG]
      · unfold pNew pOk; rw [if_neg hF, if_pos hG, if_neg hF, if_pos hG]
        exact wAdmit_any l p i c now n hl hw hn
      · unfold pRetry pRule
        rw [h, if_neg hF, if_pos hG]
        exact wRetry_any l p i c now n hl hp hi hw
      · unfold pLeft; rw [if_neg hF, if_pos hG]
        exact Left_any l p i c now hl hw
    · have e1 : pNew ⟨k, g, s, l, p⟩ ⟨t, i, c⟩ now n = Lev0 := by unfold pNew; rw [if_neg hF, if_neg hG]
      have e2 : pOk ⟨k, g, s, l, p⟩ ⟨t, i, c⟩ now n = false := by unfold pOk; rw [if_neg hF, if_neg hG]
      refine Or.inl ⟨decide_eq_false (fun h => h.elim hF hG), e2, by rw [e1]; rfl, by rw [e1]; rfl, by rw [e1]; rfl, ?_, ?_⟩
      · unfold pRetry pRule; rw [e2, if_neg hF, if_neg hG]; rfl
      · unfold pLeft; rw [if_neg hF, if_neg hG]
end Go.Proofs.Ythpcjhihifhmgaa
