/- Merged: BkPack. -/
import Derived.Test.YtkfjkfpodkbkaaaDoorMk13
set_option linter.unusedVariables false
namespace Go.Proofs.YtkfjkfpodkbkaaaDoor
open Go

/-- How many records from the first on fit, u bytes of the Room being used. -/
def fitN : Nat → List Rec → Nat
  | _, [] => 0
  | u, r :: rs => if u + 2 + r.length ≤ 494 then fitN (u + 2 + r.length) rs + 1 else 0

theorem fitN_le : ∀ (u : Nat) (rs : List Rec), fitN u rs ≤ rs.length
  | _, [] => Nat.le_refl _
  | u, r :: rs => by
    rw [fitN]; split
    · have := fitN_le (u + 2 + r.length) rs; rw [List.length_cons]; omega
    · omega
theorem fitN_room : ∀ (u : Nat) (rs : List Rec), u ≤ 494 → u + (bodyB (rs.take (fitN u rs))).length ≤ 494
  | u, [], h => by rw [fitN, List.take_zero, bodyB_nil]; exact h
  | u, r :: rs, h => by
    rw [fitN]; split
    · rename_i hr
      rw [List.take_succ_cons, bodyB_cons_length]
      have := fitN_room (u + 2 + r.length) rs hr
      omega
    · rw [List.take_zero, bodyB_nil]; exact h
theorem fitN_full : ∀ (u : Nat) (rs : List Rec) (h : fitN u rs < rs.length), 494 < u + (bodyB (rs.take (fitN u rs))).length + 2 + (rs[fitN u rs]'h).length
  | _, [], h => by simp [fitN] at h
  | u, r :: rs, h => by
    by_cases hr : u + 2 + r.length ≤ 494
    · have e : fitN u (r :: rs) = fitN (u + 2 + r.length) rs + 1 := by rw [fitN, if_pos hr]
      have hl : fitN (u + 2 + r.length) rs < rs.length := by rw [e, List.length_cons] at h; omega
      have := fitN_full (u + 2 + r.length) rs hl
      simp only [e, List.take_succ_cons, bodyB_cons_length, List.getElem_cons_succ]
      omega
    · have e : fitN u (r :: rs) = 0 := by rw [fitN, if_neg hr]
      simp only [e, List.take_zero, bodyB_nil, List.length_nil, List.getElem_cons_zero]
      omega
theorem fitN_pos (r : Rec) (rs : List Rec) (h : r.length ≤ 200) : 0 < fitN 0 (r :: rs) := by
  rw [fitN, if_pos (by omega)]; omega

/-- One record more fits just if there is one and it has room. -/
theorem fitN_walk (u : Nat) (rs : List Rec) (k : Nat) (hk : k ≤ fitN u rs) : k < fitN u rs ↔ ∃ h : k < rs.length, u + (bodyB (rs.take k)).length + 2 + (rs[k]'h).length ≤ 494 := by
  induction rs generalizing u k with
  | nil => simp [fitN]
  | cons r rs ih =>
    rw [fitN] at hk ⊢
    by_cases hr : u + 2 + r.length ≤ 494
    · rw [if_pos hr] at hk ⊢
      cases k with
      | zero =>
        constructor
        · intro _; exact ⟨by simp, by simp [bodyB_nil]; omega⟩
        · intro _; omega
      | succ k =>
        have := ih (u + 2 + r.length) k (by omega)
        constructor
        · intro h
          obtain ⟨h1, h2⟩ := this.1 (by omega)
          refine ⟨by rw [List.length_cons]; omega, ?_⟩
          rw [List.take_succ_cons, bodyB_cons_length, List.getElem_cons_succ]
          omega
        · rintro ⟨h1, h2⟩
          rw [List.take_succ_cons, bodyB_cons_length, List.getElem_cons_succ] at h2
          have := this.2 ⟨by rw [List.length_cons] at h1; omega, by omega⟩
          omega
    · rw [if_neg hr] at hk ⊢
      obtain rfl : k = 0 := by omega
      constructor
      · intro h; omega
      · rintro ⟨_, h2⟩
        simp [bodyB_nil] at h2
        omega

/-- The cut into blocks (n: a bound of their count). -/
def cutsB : Nat → List Rec → List (List Rec)
  | 0, _ => []
  | n + 1, rs => if rs = [] then [] else rs.take (fitN 0 rs) :: cutsB n (rs.drop (fitN 0 rs))

/-- The blocks one behind the other. -/
def pkB : Nat → List (List Rec) → List UInt8
  | _, [] => []
  | first, g :: gs => blkB first g ++ pkB (first + g.length) gs

def packB (first : Nat) (rs : List Rec) : List UInt8 := pkB first (cutsB rs.length rs)

theorem fitN_some {rs : List Rec} (h : ∀ r ∈ rs, r.length ≤ 200) (hne : rs ≠ []) : 0 < fitN 0 rs := by
  cases rs with
  | nil => exact absurd rfl hne
  | cons r rs => exact fitN_pos r rs (h r (by simp))

theorem cuts_flat : ∀ (n : Nat) (rs : List Rec), (∀ r ∈ rs, r.length ≤ 200) → rs.length ≤ n → (cutsB n rs).flatten = rs
  | 0, rs, _, h => by
    obtain rfl : rs = [] := List.eq_nil_of_length_eq_zero (by omega)
    rfl
  | n + 1, rs, h, hn => by
    rw [cutsB]; split
    · rename_i e; rw [e]; rfl
    · rename_i hne
      have hp := fitN_some h hne
      rw [List.flatten_cons, cuts_flat n _ (fun r hr => h r (List.mem_of_mem_drop hr)) (by rw [List.length_drop]; omega), List.take_append_drop]
/-- Another bound, the same cut. -/
theorem cuts_any : ∀ (n m : Nat) (rs : List Rec), (∀ r ∈ rs, r.length ≤ 200) → rs.length ≤ n → rs.length ≤ m → cutsB n rs = cutsB m rs
  | 0, m, rs, _, h, _ => by
    obtain rfl : rs = [] := List.eq_nil_of_length_eq_zero (by omega)
    cases m <;> simp [cutsB]
  | n + 1, 0, rs, _, _, h => by
    obtain rfl : rs = [] := List.eq_nil_of_length_eq_zero (by omega)
    simp [cutsB]
  | n + 1, m + 1, rs, h, hn, hm => by
    rw [cutsB, cutsB]; split
    · rfl
    · rename_i hne
      have hp := fitN_some h hne
      rw [cuts_any n m _ (fun r hr => h r (List.mem_of_mem_drop hr)) (by rw [List.length_drop]; omega) (by rw [List.length_drop]; omega)]
theorem cutsB_nil (n : Nat) : cutsB n [] = [] := by cases n <;> simp [cutsB]
theorem packB_nil (first : Nat) : packB first [] = [] := rfl
/-- Pack takes as many as fit, and packs the rest. -/
theorem packB_step (first : Nat) {rs : List Rec} (h : ∀ r ∈ rs, r.length ≤ 200) (hne : rs ≠ []) : packB first rs = blkB first (rs.take (fitN 0 rs)) ++ packB (first + fitN 0 rs) (rs.drop (fitN 0 rs)) := by
  have hp := fitN_some h hne
  have hl := fitN_le 0 rs
  have hpos : 0 < rs.length := List.length_pos_iff.2 hne
  have e : cutsB rs.length rs = rs.take (fitN 0 rs) :: cutsB (rs.drop (fitN 0 rs)).length (rs.drop (fitN 0 rs)) := by
    obtain ⟨n, hn⟩ : ∃ n, rs.length = n + 1 := ⟨rs.length - 1, by omega⟩
    rw [hn, cutsB, if_neg hne]
    rw [cuts_any n (rs.drop (fitN 0 rs)).length _ (fun r hr => h r (List.mem_of_mem_drop hr)) (by rw [List.length_drop]; omega) (Nat.le_refl _)]
  rw [packB, e, pkB, List.length_take, Nat.min_eq_left hl]
  rfl

/-- Each of these may be encoded where it stands. -/
def Fits : Nat → List (List Rec) → Prop
  | _, [] => True
  | first, g :: gs => FitB first g ∧ Fits (first + g.length) gs

theorem cuts_fit : ∀ (n first : Nat) (rs : List Rec), (∀ r ∈ rs, r.length ≤ 200) → 1 ≤ first → first + rs.length ≤ 2 ^ 62 + 1 → Fits first (cutsB n rs)
  | 0, first, rs, _, _, _ => trivial
  | n + 1, first, rs, h, h1, h2 => by
    rw [cutsB]; split
    · trivial
    · rename_i hne
      have hp := fitN_some h hne
      have hl := fitN_le 0 rs
      have ht : (rs.take (fitN 0 rs)).length = fitN 0 rs := by rw [List.length_take]; omega
      refine ⟨⟨fun e => ?_, h1, by rw [ht]; omega, fun r hr => h r (List.mem_of_mem_take hr), ?_⟩, ?_⟩
      · rw [e] at ht; simp at ht; omega
      · have := fitN_room 0 rs (by omega); omega
      · rw [ht]
        exact cuts_fit n _ _ (fun r hr => h r (List.mem_of_mem_drop hr)) (by omega) (by rw [List.length_drop]; omega)

theorem pkB_length : ∀ (first : Nat) (gs : List (List Rec)), Fits first gs → (pkB first gs).length = 512 * gs.length
  | _, [], _ => rfl
  | first, g :: gs, h => by
    rw [pkB, List.length_append, blkB_length h.1.room, pkB_length _ gs h.2, List.length_cons]; omega

/-- What a scan finds in sectors i, i + 1 and so on; due: the number that is due (n: a bound of their count). -/
def scanB (bad : Nat → Bool) : Nat → List UInt8 → Nat → Nat → List Rec × Nat
  | 0, _, _, _ => ([], 0)
  | n + 1, d, i, due =>
    if d.length < 512 ∨ bad i = true then ([], 0)
    else match decB (d.take 512) with
      | .error _ => ([], 0)
      | .ok (f, rs) => if f = due then (rs ++ (scanB bad n (d.drop 512) (i + 1) (due + rs.length)).1, (scanB bad n (d.drop 512) (i + 1) (due + rs.length)).2 + 1) else ([], 0)

/-- The records' count. -/
def cntB (gs : List (List Rec)) : Nat := gs.flatten.length

/-- WHAT IS SCANNED IS ALL THE GOOD BLOCKS AT THE FRONT. -/
theorem scan_front (bad : Nat → Bool) : ∀ (gs : List (List Rec)) (n : Nat) (rest : List UInt8) (i first : Nat), Fits first gs → (∀ j, i ≤ j → j < i + gs.length → bad j = false) →
    scanB bad (gs.length + n) (pkB first gs ++ rest) i first = (gs.flatten ++ (scanB bad n rest (i + gs.length) (first + cntB gs)).1, gs.length + (scanB bad n rest (i + gs.length) (first + cntB gs)).2)
  | [], n, rest, i, first, _, _ => by simp [pkB, cntB]
  | g :: gs, n, rest, i, first, h, hb => by
    have hl := blkB_length (first := first) h.1.room
    have e1 : (pkB first (g :: gs) ++ rest).take 512 = blkB first g := by rw [pkB, List.append_assoc]; exact List.take_left' hl
    have e2 : (pkB first (g :: gs) ++ rest).drop 512 = pkB (first + g.length) gs ++ rest := by rw [pkB, List.append_assoc]; exact List.drop_left' hl
    have ih := scan_front bad gs n rest (i + 1) (first + g.length) h.2 (fun j h1 h2 => hb j (by omega) (by rw [List.length_cons]; omega))
    have e3 : first + g.length + cntB gs = first + cntB (g :: gs) := by simp [cntB]; omega
    have e4 : i + 1 + gs.length = i + (g :: gs).length := by rw [List.length_cons]; omega
    rw [e3, e4] at ih
    rw [show (g :: gs).length + n = (gs.length + n) + 1 by rw [List.length_cons]; omega, scanB, if_neg, e1, dec_blk h.1]
    · show (if first = first then _ else _) = _
      rw [if_pos rfl, e2, ih]
      simp only [List.flatten_cons, List.append_assoc, List.length_cons]
      congr 1
      omega
    · rw [hb i (Nat.le_refl _) (by rw [List.length_cons]; omega)]
      have : (pkB first (g :: gs) ++ rest).length = 512 + (pkB (first + g.length) gs ++ rest).length := by rw [pkB, List.append_assoc, List.length_append, hl]
      simp
      simp at this
      omega

/-- The bound is none. -/
theorem scan_any (bad : Nat → Bool) : ∀ (n m : Nat) (d : List UInt8) (i due : Nat), d.length / 512 ≤ n → d.length / 512 ≤ m → scanB bad n d i due = scanB bad m d i due
  | 0, 0, _, _, _, _, _ => rfl
  | 0, m + 1, d, i, due, h, _ => by
    rw [scanB, scanB, if_pos (by omega)]
  | n + 1, 0, d, i, due, _, h => by
    rw [scanB, scanB, if_pos (by omega)]
  | n + 1, m + 1, d, i, due, h1, h2 => by
    rw [scanB, scanB]
    split
    · rfl
    · rename_i hc
      have ih := fun due' => scan_any bad n m (d.drop 512) (i + 1) due' (by rw [List.length_drop]; omega) (by rw [List.length_drop]; omega)
      split
      · rfl
      · rename_i f rs _
        rw [ih]

/-- WHAT IS PACKED IS SCANNED WHOLE. -/
theorem scan_pack {first : Nat} {rs : List Rec} (h : ∀ r ∈ rs, r.length ≤ 200) (h1 : 1 ≤ first) (h2 : first + rs.length ≤ 2 ^ 62 + 1) :
    scanB (fun _ => false) (packB first rs).length (packB first rs) 0 first = (rs, (packB first rs).length / 512) := by
  have hf := cuts_fit rs.length first rs h h1 h2
  have hl : (packB first rs).length = 512 * (cutsB rs.length rs).length := pkB_length _ _ hf
  have hs := scan_front (fun _ => false) (cutsB rs.length rs) 0 [] 0 first hf (fun _ _ _ => rfl)
  rw [List.append_nil, Nat.add_zero] at hs
  rw [scan_any _ _ (cutsB rs.length rs).length _ _ _ (by omega) (by omega)]
  show scanB _ _ (pkB first _) 0 first = _
  rw [hs, cuts_flat _ _ h (Nat.le_refl _)]
  simp only [scanB, List.append_nil, Nat.add_zero]
  congr 1
  omega

/-- Each block but the last is full. -/
def FullB : List (List Rec) → Prop
  | [] => True
  | [_] => True
  | g :: (r :: g') :: gs => 494 < (bodyB g).length + 2 + r.length ∧ FullB ((r :: g') :: gs)
  | _ :: [] :: _ => False

theorem cuts_full : ∀ (n : Nat) (rs : List Rec), (∀ r ∈ rs, r.length ≤ 200) → rs.length ≤ n → FullB (cutsB n rs)
  | 0, _, _, _ => trivial
  | n + 1, rs, h, hn => by
    rw [cutsB]; split
    · trivial
    · rename_i hne
      have hp := fitN_some h hne
      have hd : ∀ r ∈ rs.drop (fitN 0 rs), r.length ≤ 200 := fun r hr => h r (List.mem_of_mem_drop hr)
      have ih := cuts_full n (rs.drop (fitN 0 rs)) hd (by rw [List.length_drop]; omega)
      by_cases hk : fitN 0 rs < rs.length
      · obtain ⟨y, ys, hd2, hy, hfull⟩ : ∃ y ys, rs.drop (fitN 0 rs) = y :: ys ∧ y.length ≤ 200 ∧ 494 < (bodyB (rs.take (fitN 0 rs))).length + 2 + y.length :=
          ⟨_, _, List.drop_eq_getElem_cons hk, h _ (List.getElem_mem hk), by have := fitN_full 0 rs hk; omega⟩
        cases n with
        | zero => rw [List.length_eq_zero_iff.1 (show rs.length = 0 by omega)] at hne; exact absurd rfl hne
        | succ n =>
          rw [hd2, cutsB, if_neg (List.cons_ne_nil y ys)] at ih ⊢
          obtain ⟨q, hq⟩ : ∃ q, fitN 0 (y :: ys) = q + 1 := ⟨_, (Nat.succ_pred_eq_of_pos (fitN_pos y ys hy)).symm⟩
          rw [hq, List.take_succ_cons] at ih ⊢
          exact ⟨hfull, ih⟩
      · have hd2 : rs.drop (fitN 0 rs) = [] := List.drop_eq_nil_of_le (by omega)
        rw [hd2, cutsB_nil]
        trivial

end Go.Proofs.YtkfjkfpodkbkaaaDoor
