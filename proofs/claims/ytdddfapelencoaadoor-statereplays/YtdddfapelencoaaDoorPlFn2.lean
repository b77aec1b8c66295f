/- policy: the functions of both rules that ask layers 4 and 5. -/
import Derived.Test.YtdddfapelencoaaDoorPlFn
import Derived.Test.YtdddfapelencoaaDoorBox
set_option linter.unusedVariables false
namespace Go.Proofs.YtdddfapelencoaaDoor
open Go Go.RowKit

set_option maxHeartbeats 400000 in
theorem flowAdmit_any (k : Int) (g s l p t i c now n : Nat) (hg : N64 g) (hs : N64 s) (ht : N64 t) (hw : N64 now) (hn : N64 n) (w : World) :
    Calls Tryd.prog 51 #[Pv k g s l p, Lv t i c, V now, V n] w fun e w' => e = .returned (.tuple #[.agg #[V (gTat g s t now n), Z, Z], .bool (decide (GFits g s t now n))]) ∧ Up w w' := by
  have k1 := Admit_any g s t now n hg hs ht hw hn
  generalize gTat g s t now n = T at *
  generalize decide (GFits g s t now n) = o at *
  clear hg hs ht hw hn
  go_enter Tryd.func51, Tryd.ntmps51
  go_wp2_with fail
  refine (k1 _).mono ?_
  rintro e w1 ⟨rfl, u1⟩
  obtain ⟨hc, hf⟩ := bcell u1
  have hz : w.heap.size + 2 < w1.heap.size := by have := u1.size; simp at this; omega
  have b1 : Box w1 (w.heap.size + 1 + 1) #[Z, Z, Z] := (Box.newAt (by simp)).up u1
  have v1 : Up w w1 := (up3 _ _ _ _).trans u1
  go_wp2
  have b2 := b1.set3 (x := V T) (y := Z) (z := Z)
  have v2 := v1.set3 (k := w.heap.size + 1 + 1) (by omega) (V T) Z Z
  obtain ⟨c0, c1, c2⟩ := b2.c3
  generalize World.setCell _ _ _ = w2 at *
  exact bodyPost_ret (v := .tuple #[.agg #[V T, Z, Z], .bool o]) (by simp [results, Tryd.results51, go_sem, c0, c1, c2]) rfl ⟨rfl, v2⟩
theorem gridAdmit_any (k : Int) (g s l p t i c now n : Nat) (hl : N64 l) (hw : N64 now) (hn : N64 n) (w : World) :
    Calls Tryd.prog 57 #[Pv k g s l p, Lv t i c, V now, V n] w fun e w' => e = .returned (.tuple #[.agg #[Z, V (wIx l p i c now n), V (wCt l p i c now n)], .bool (decide (WFits l p i c now n))]) ∧ Up w w' := by
  have k1 := wAdmit_any l p i c now n hl hw hn
  generalize wIx l p i c now n = I at *
  generalize wCt l p i c now n = C at *
  generalize decide (WFits l p i c now n) = o at *
  clear hl hw hn
  go_enter Tryd.func57, Tryd.ntmps57
  go_wp2_with fail
  refine (k1 _).mono ?_
  rintro e w1 ⟨rfl, rfl⟩
  go_wp2
  refine bodyPost_ret (v := .tuple #[.agg #[Z, V I, V C], .bool o]) (by simp [results, Tryd.results57, go_sem]) rfl ⟨rfl, up3 _ _ _ _⟩
theorem flowRetry_any (k : Int) (g s l p t i c now n : Nat) (hg : N64 g) (hs : N64 s) (ht : N64 t) (hw : N64 now) (hn : N64 n) (w : World) :
    Calls Tryd.prog 52 #[Pv k g s l p, Lv t i c, V now, V n] w fun e w' => e = .returned (V (gRetry g s t now n)) ∧ Up w w' := by
  have k1 := Retry_any g s t now n hg hs ht hw hn
  generalize gRetry g s t now n = T at *
  clear hg hs ht hw hn
  go_enter Tryd.func52, Tryd.ntmps52
  go_wp2_with fail
  refine (k1 _).mono ?_
  rintro e w1 ⟨rfl, u1⟩
  go_wp2
  go_ret
  exact ⟨rfl, (up2 _ _ _).trans u1⟩
theorem gridRetry_any (k : Int) (g s l p t i c now n : Nat) (hl : N64 l) (hp : N64 p) (hi : N64 i) (hw : N64 now) (w : World) :
    Calls Tryd.prog 58 #[Pv k g s l p, Lv t i c, V now, V n] w fun e w' => e = .returned (V (wRetry l p i c now n)) ∧ Up w w' := by
  have k1 := wRetry_any l p i c now n hl hp hi hw
  generalize wRetry l p i c now n = T at *
  clear hl hp hi hw
  go_enter Tryd.func58, Tryd.ntmps58
  go_wp2_with fail
  refine (k1 _).mono ?_
  rintro e w1 ⟨rfl, u1⟩
  go_wp2
  go_ret
  exact ⟨rfl, (up2 _ _ _).trans u1⟩
theorem flowLeft_any (k : Int) (g s l p t i c now : Nat) (hg : N64 g) (hs : N64 s) (ht : N64 t) (hw : N64 now) (w : World) :
    Calls Tryd.prog 53 #[Pv k g s l p, Lv t i c, V now] w fun e w' => e = .returned (V (gBurst g s t now)) ∧ Up w w' := by
  have k1 := Burst_any g s t now hg hs ht hw
  generalize gBurst g s t now = T at *
  clear hg hs ht hw
  go_enter Tryd.func53, Tryd.ntmps53
  go_wp2_with fail
  refine (k1 _).mono ?_
  rintro e w1 ⟨rfl, rfl⟩
  go_wp2
  go_ret
  exact ⟨rfl, up2 _ _ _⟩
theorem gridLeft_any (k : Int) (g s l p t i c now : Nat) (hl : N64 l) (hw : N64 now) (w : World) :
    Calls Tryd.prog 59 #[Pv k g s l p, Lv t i c, V now] w fun e w' => e = .returned (V (wLeft l p i c now)) ∧ Up w w' := by
  have k1 := wnLeft_any l p i c now hl hw
  generalize wLeft l p i c now = T at *
  clear hl hw
  go_enter Tryd.func59, Tryd.ntmps59
  go_wp2_with fail
  refine (k1 _).mono ?_
  rintro e w1 ⟨rfl, rfl⟩
  go_wp2
  go_ret
  exact ⟨rfl, up2 _ _ _⟩
end Go.Proofs.YtdddfapelencoaaDoor
