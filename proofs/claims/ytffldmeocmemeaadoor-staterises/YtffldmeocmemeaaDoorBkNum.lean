/- block: a block's bytes and what they say, in lists alone. -/
import Derived.Test.YtffldmeocmemeaaDoorPoly
import Derived.WalkKit
set_option linter.unusedVariables false
namespace Go.Proofs.YtffldmeocmemeaaDoor
open Go

/-- x in n bytes, the lowest first; and the number of such bytes. -/
def bl : Nat → Nat → List UInt8
  | 0, _ => []
  | n + 1, x => UInt8.ofNat x :: bl n (x / 256)
def lb : List UInt8 → Nat
  | [] => 0
  | c :: cs => c.toNat + 256 * lb cs

theorem bl_length (n x : Nat) : (bl n x).length = n := by
  induction n generalizing x with
  | zero => rfl
  | succ n ih => simp [bl, ih]
theorem ofNat_toNat (x : Nat) : (UInt8.ofNat x).toNat = x % 256 := by simp
theorem lb_bl (n x : Nat) (h : x < 256 ^ n) : lb (bl n x) = x := by
  induction n generalizing x with
  | zero => simp at h; simp [bl, lb, h]
  | succ n ih =>
    rw [bl, lb, ih (x / 256) (by rw [Nat.div_lt_iff_lt_mul (by omega), ← Nat.pow_succ]; exact h), ofNat_toNat]
    omega
theorem lb_lt : ∀ bs : List UInt8, lb bs < 256 ^ bs.length
  | [] => by simp [lb]
  | c :: cs => by
    have h := lb_lt cs
    have hc := c.toNat_lt
    rw [lb, List.length_cons, Nat.pow_succ]
    omega
theorem bl_lb : ∀ bs : List UInt8, bl bs.length (lb bs) = bs
  | [] => rfl
  | c :: cs => by
    have hc := c.toNat_lt
    have e1 : (c.toNat + 256 * lb cs) / 256 = lb cs := by omega
    have e2 : UInt8.ofNat (c.toNat + 256 * lb cs) = c := by
      apply UInt8.toNat_inj.1
      rw [ofNat_toNat]
      omega
    rw [List.length_cons, lb, bl, e1, e2, bl_lb cs]
theorem lb_inj {a b : List UInt8} (hl : a.length = b.length) (h : lb a = lb b) : a = b := by
  rw [← bl_lb a, ← bl_lb b, hl, h]

abbrev Rec := List UInt8
def recB (r : Rec) : List UInt8 := bl 2 r.length ++ r
def bodyB (rs : List Rec) : List UInt8 := rs.flatMap recB
theorem recB_length (r : Rec) : (recB r).length = 2 + r.length := by rw [recB, List.length_append, bl_length]
theorem bodyB_nil : bodyB [] = [] := rfl
theorem bodyB_cons (r : Rec) (rs : List Rec) : bodyB (r :: rs) = recB r ++ bodyB rs := rfl
theorem bodyB_append (a b : List Rec) : bodyB (a ++ b) = bodyB a ++ bodyB b := by simp [bodyB]
theorem bodyB_cons_length (r : Rec) (rs : List Rec) : (bodyB (r :: rs)).length = 2 + r.length + (bodyB rs).length := by
  rw [bodyB_cons, List.length_append, recB_length]
theorem bodyB_snoc_length (rs : List Rec) (r : Rec) : (bodyB (rs ++ [r])).length = (bodyB rs).length + 2 + r.length := by
  rw [bodyB_append, List.length_append, bodyB_cons_length, bodyB_nil, List.length_nil]; omega
theorem bodyB_count (rs : List Rec) : 2 * rs.length ≤ (bodyB rs).length := by
  induction rs with
  | nil => simp [bodyB_nil]
  | cons r rs ih => rw [bodyB_cons_length, List.length_cons]; omega

/-- May be encoded. -/
structure FitB (first : Nat) (rs : List Rec) : Prop where
  one : rs ≠ []
  low : 1 ≤ first
  top : first + rs.length ≤ 2 ^ 62 + 1
  long : ∀ r ∈ rs, r.length ≤ 200
  room : (bodyB rs).length ≤ 494

def mag : List UInt8 := [84, 66, 48, 49]
def preB (first n : Nat) : List UInt8 := mag ++ bl 8 first ++ bl 2 n
def bodyZ (rs : List Rec) : List UInt8 := bodyB rs ++ List.replicate (494 - (bodyB rs).length) 0
def sumAll (a c : List UInt8) : W32 := sumC (a ++ [0, 0, 0, 0] ++ c)
def blkB (first : Nat) (rs : List Rec) : List UInt8 := preB first rs.length ++ bl 4 (sumAll (preB first rs.length) (bodyZ rs)).toNat ++ bodyZ rs

theorem preB_length (first n : Nat) : (preB first n).length = 14 := by simp [preB, mag, bl_length]
theorem bodyZ_length {rs : List Rec} (h : (bodyB rs).length ≤ 494) : (bodyZ rs).length = 494 := by
  rw [bodyZ, List.length_append, List.length_replicate]; omega
theorem blkB_length {first : Nat} {rs : List Rec} (h : (bodyB rs).length ≤ 494) : (blkB first rs).length = 512 := by
  rw [blkB, List.length_append, List.length_append, preB_length, bl_length, bodyZ_length h]

/-- The records of a block's Room. -/
def parseR : Nat → List UInt8 → Option (List Rec)
  | 0, bs => if bs = List.replicate bs.length 0 then some [] else none
  | n + 1, bs =>
    if 2 ≤ bs.length ∧ lb (bs.take 2) ≤ 200 ∧ 2 + lb (bs.take 2) ≤ bs.length then
      (parseR n (bs.drop (2 + lb (bs.take 2)))).map (((bs.drop 2).take (lb (bs.take 2))) :: ·)
    else none

inductive DecE
  | short | form | sum

def decB (b : List UInt8) : Except DecE (Nat × List Rec) :=
  if b.length < 512 then .error .short
  else if 512 < b.length ∨ b.take 4 ≠ mag then .error .form
  else if lb ((b.drop 14).take 4) ≠ (sumAll (b.take 14) (b.drop 18)).toNat then .error .sum
  else if lb ((b.drop 12).take 2) = 0 ∨ lb ((b.drop 4).take 8) = 0 ∨ 2 ^ 62 + 1 < lb ((b.drop 4).take 8) + lb ((b.drop 12).take 2) then .error .form
  else match parseR (lb ((b.drop 12).take 2)) (b.drop 18) with
    | none => .error .form
    | some rs => .ok (lb ((b.drop 4).take 8), rs)

theorem parse_body : ∀ (rs : List Rec) (k : Nat), (∀ r ∈ rs, r.length ≤ 200) → parseR rs.length (bodyB rs ++ List.replicate k 0) = some rs
  | [], k, _ => by
    rw [List.length_nil, bodyB_nil, List.nil_append, parseR, if_pos (by simp)]
  | r :: rs, k, h => by
    have hr := h r (by simp)
    have e1 : (bodyB (r :: rs) ++ List.replicate k 0).take 2 = bl 2 r.length := by
      rw [bodyB_cons, recB, List.append_assoc, List.append_assoc]
      exact List.take_left' (bl_length _ _)
    have e2 : lb (bl 2 r.length) = r.length := lb_bl _ _ (by omega)
    have e3 : (bodyB (r :: rs) ++ List.replicate k 0).drop (2 + r.length) = bodyB rs ++ List.replicate k 0 := by
      rw [bodyB_cons, List.append_assoc]
      exact List.drop_left' (recB_length r)
    have e4 : ((bodyB (r :: rs) ++ List.replicate k 0).drop 2).take r.length = r := by
      rw [bodyB_cons, recB, List.append_assoc, List.append_assoc, List.drop_left' (bl_length _ _)]
      exact List.take_left' rfl
    rw [List.length_cons, parseR, e1, e2, e3, e4, parse_body rs k (fun x hx => h x (by simp [hx])), if_pos]
    · rfl
    · rw [List.length_append, bodyB_cons_length]; omega

theorem parse_back : ∀ (n : Nat) (bs : List UInt8) (rs : List Rec), parseR n bs = some rs → rs.length = n ∧ (∀ r ∈ rs, r.length ≤ 200) ∧ ∃ k, bs = bodyB rs ++ List.replicate k 0
  | 0, bs, rs, h => by
    rw [parseR] at h
    split at h
    · rename_i hz
      obtain rfl : [] = rs := Option.some.inj h
      exact ⟨rfl, by simp, bs.length, hz⟩
    · cases h
  | n + 1, bs, rs, h => by
    rw [parseR] at h
    split at h
    · rename_i hc
      obtain ⟨h1, h2, h3⟩ := hc
      obtain ⟨rs', h4, rfl⟩ := Option.map_eq_some_iff.1 h
      obtain ⟨h5, h6, k, h7⟩ := parse_back n _ rs' h4
      have hlen : ((bs.drop 2).take (lb (bs.take 2))).length = lb (bs.take 2) := by rw [List.length_take, List.length_drop]; omega
      refine ⟨by rw [List.length_cons, h5], fun r hr => ?_, k, ?_⟩
      · rcases List.mem_cons.1 hr with rfl | hr
        · rw [hlen]; exact h2
        · exact h6 r hr
      · rw [bodyB_cons, recB, hlen, List.append_assoc, ← h7]
        have e1 : bl 2 (lb (bs.take 2)) = bs.take 2 := by
          have := bl_lb (bs.take 2)
          rwa [show (bs.take 2).length = 2 by rw [List.length_take]; omega] at this
        rw [e1, ← List.drop_drop, List.append_assoc, List.take_append_drop, List.take_append_drop]
    · cases h

/-- The places of a block. -/
theorem blkB_parts {first : Nat} {rs : List Rec} (h : FitB first rs) : (blkB first rs).take 14 = preB first rs.length ∧ ((blkB first rs).drop 14).take 4 = bl 4 (sumAll (preB first rs.length) (bodyZ rs)).toNat ∧ (blkB first rs).drop 18 = bodyZ rs ∧
    (blkB first rs).take 4 = mag ∧ ((blkB first rs).drop 4).take 8 = bl 8 first ∧ ((blkB first rs).drop 12).take 2 = bl 2 rs.length := by
  have l1 := preB_length first rs.length
  have l2 := bl_length 4 (sumAll (preB first rs.length) (bodyZ rs)).toNat
  have l3 := bl_length 8 first
  have l4 := bl_length 2 rs.length
  have lm : mag.length = 4 := rfl
  refine ⟨?_, ?_, ?_, ?_, ?_, ?_⟩
  · rw [blkB, List.append_assoc]; exact List.take_left' l1
  · rw [blkB, List.append_assoc, List.drop_left' l1]; exact List.take_left' l2
  · rw [blkB]; exact List.drop_left' (by rw [List.length_append, l1, l2])
  · rw [blkB, preB]; simp only [List.append_assoc]; exact List.take_left' lm
  · rw [blkB, preB]; simp only [List.append_assoc]; rw [List.drop_left' lm]; exact List.take_left' l3
  · rw [blkB, preB]; simp only [List.append_assoc]; rw [← List.append_assoc, List.drop_left' (by rw [List.length_append, lm, l3])]; exact List.take_left' l4

/-- WHAT IS ENCODED COMES BACK. -/
theorem dec_blk {first : Nat} {rs : List Rec} (h : FitB first rs) : decB (blkB first rs) = .ok (first, rs) := by
  obtain ⟨p1, p2, p3, p4, p5, p6⟩ := blkB_parts h
  have hl := blkB_length (first := first) h.room
  have hone : 0 < rs.length := List.length_pos_iff.2 h.one
  have hcnt := bodyB_count rs
  have hroom := h.room
  have htop := h.top
  have hlow := h.low
  have e1 : lb (bl 8 first) = first := lb_bl _ _ (by omega)
  have e2 : lb (bl 2 rs.length) = rs.length := lb_bl _ _ (by omega)
  have e3 : lb (bl 4 (sumAll (preB first rs.length) (bodyZ rs)).toNat) = (sumAll (preB first rs.length) (bodyZ rs)).toNat := lb_bl _ _ (by have := (sumAll (preB first rs.length) (bodyZ rs)).isLt; omega)
  unfold decB
  rw [hl, p1, p2, p3, p4, p5, p6, e1, e2, e3, if_neg (by omega), if_neg (by simp), if_neg (by simp), if_neg (by omega)]
  show (match parseR rs.length (bodyB rs ++ _) with | none => _ | some rs => _) = _
  rw [parse_body rs _ h.long]

/-- WHAT IS TAKEN IS ENCODED AS THE SAME BYTES. -/
theorem blk_dec {b : List UInt8} {first : Nat} {rs : List Rec} (h : decB b = .ok (first, rs)) : FitB first rs ∧ blkB first rs = b := by
  unfold decB at h
  split at h
  · cases h
  split at h
  · cases h
  split at h
  · cases h
  split at h
  · cases h
  rename_i h1 h2 h3 h4
  split at h
  · cases h
  rename_i rs' hp
  simp only [Except.ok.injEq, Prod.mk.injEq] at h
  obtain ⟨hf, rfl⟩ := h
  obtain ⟨q1, q2, k, q3⟩ := parse_back _ _ _ hp
  have hb : b.length = 512 := by omega
  have h2' : b.take 4 = mag := Classical.byContradiction fun hn => h2 (.inr hn)
  have h3' := Classical.not_not.1 h3
  have hl := congrArg List.length q3
  rw [List.length_append, List.length_replicate, List.length_drop, hb] at hl
  have hz : bodyZ rs' = b.drop 18 := by rw [q3, bodyZ, show 494 - (bodyB rs').length = k by omega]
  have e8 : bl 8 first = (b.drop 4).take 8 := by
    have := bl_lb ((b.drop 4).take 8)
    rwa [show ((b.drop 4).take 8).length = 8 by rw [List.length_take, List.length_drop]; omega, hf] at this
  have e2 : bl 2 rs'.length = (b.drop 12).take 2 := by
    have := bl_lb ((b.drop 12).take 2)
    rwa [show ((b.drop 12).take 2).length = 2 by rw [List.length_take, List.length_drop]; omega, ← q1] at this
  have hpre : preB first rs'.length = b.take 14 := by
    rw [preB, e8, e2, ← h2', List.append_assoc]
    rw [show b.drop 12 = (b.drop 4).drop 8 by rw [List.drop_drop], ← List.take_add, ← List.take_add]
  have e4 : bl 4 (sumAll (preB first rs'.length) (bodyZ rs')).toNat = (b.drop 14).take 4 := by
    have := bl_lb ((b.drop 14).take 4)
    rw [show ((b.drop 14).take 4).length = 4 by rw [List.length_take, List.length_drop]; omega, h3'] at this
    rw [hpre, hz]
    exact this
  refine ⟨⟨fun e => ?_, by omega, by omega, q2, by omega⟩, ?_⟩
  · rw [e] at q1; rw [← q1] at h4; simp at h4
  · rw [blkB, e4, hpre, hz]
    rw [← List.take_add, List.take_append_drop]

end Go.Proofs.YtffldmeocmemeaaDoor
