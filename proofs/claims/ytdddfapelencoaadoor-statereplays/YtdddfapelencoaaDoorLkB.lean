/- Merged: BkNum, RcNum. -/
import Derived.Test.YtdddfapelencoaaDoorPoly
import Derived.WalkKit
set_option linter.unusedVariables false
namespace Go.Proofs.YtdddfapelencoaaDoor
open Go

/-- x in n bytes, the lowest first; and the number of such bytes. -/
def bl : Nat → Nat → List UInt8
  | 0, _ => []
  | n + 1, x => UInt8.ofNat x :: bl n (x / 256)
def lb : List UInt8 → Nat
  | [] => 0
  | c :: cs => c.toNat + 256 * lb cs

theorem bl_length (n x : Nat) : (bl n x).length = n := by
  induction n generalizing x with
  | zero => rfl
  | succ n ih => simp [bl, ih]
theorem ofNat_toNat (x : Nat) : (UInt8.ofNat x).toNat = x % 256 := by simp
theorem lb_bl (n x : Nat) (h : x < 256 ^ n) : lb (bl n x) = x := by
  induction n generalizing x with
  | zero => simp at h; simp [bl, lb, h]
  | succ n ih =>
    rw [bl, lb, ih (x / 256) (by rw [Nat.div_lt_iff_lt_mul (by omega), ← Nat.pow_succ]; exact h), ofNat_toNat]
    omega
theorem lb_lt : ∀ bs : List UInt8, lb bs < 256 ^ bs.length
  | [] => by simp [lb]
  | c :: cs => by
    have h := lb_lt cs
    have hc := c.toNat_lt
    rw [lb, List.length_cons, Nat.pow_succ]
    omega
theorem bl_lb : ∀ bs : List UInt8, bl bs.length (lb bs) = bs
  | [] => rfl
  | c :: cs => by
    have hc := c.toNat_lt
    have e1 : (c.toNat + 256 * lb cs) / 256 = lb cs := by omega
    have e2 : UInt8.ofNat (c.toNat + 256 * lb cs) = c := by
      apply UInt8.toNat_inj.1
      rw [ofNat_toNat]
      omega
    rw [List.length_cons, lb, bl, e1, e2, bl_lb cs]
theorem lb_inj {a b : List UInt8} (hl : a.length = b.length) (h : lb a = lb b) : a = b := by
  rw [← bl_lb a, ← bl_lb b, hl, h]

abbrev Rec := List UInt8
def recB (r : Rec) : List UInt8 := bl 2 r.length ++ r
def bodyB (rs : List Rec) : List UInt8 := rs.flatMap recB
theorem recB_length (r : Rec) : (recB r).length = 2 + r.length := by rw [recB, List.length_append, bl_length]
theorem bodyB_nil : bodyB [] = [] := rfl
theorem bodyB_cons (r : Rec) (rs : List Rec) : bodyB (r :: rs) = recB r ++ bodyB rs := rfl
theorem bodyB_append (a b : List Rec) : bodyB (a ++ b) = bodyB a ++ bodyB b := by simp [bodyB]
theorem bodyB_cons_length (r : Rec) (rs : List Rec) : (bodyB (r :: rs)).length = 2 + r.length + (bodyB rs).length := by
  rw [bodyB_cons, List.length_append, recB_length]
theorem bodyB_snoc_length (rs : List Rec) (r : Rec) : (bodyB (rs ++ [r])).length = (bodyB rs).length + 2 + r.length := by
  rw [bodyB_append, List.length_append, bodyB_cons_length, bodyB_nil, List.length_nil]; omega
theorem bodyB_count (rs : List Rec) : 2 * rs.length ≤ (bodyB rs).length := by
  induction rs with
  | nil => simp [bodyB_nil]
  | cons r rs ih => rw [bodyB_cons_length, List.length_cons]; omega

/-- May be encoded. -/
structure FitB (first : Nat) (rs : List Rec) : Prop where
  one : rs ≠ []
  low : 1 ≤ first
  top : first + rs.length ≤ 2 ^ 62 + 1
  long : ∀ r ∈ rs, r.length ≤ 200
  room : (bodyB rs).length ≤ 494

def mag : List UInt8 := [84, 66, 48, 49]
def preB (first n : Nat) : List UInt8 := mag ++ bl 8 first ++ bl 2 n
def bodyZ (rs : List Rec) : List UInt8 := bodyB rs ++ List.replicate (494 - (bodyB rs).length) 0
def sumAll (a c : List UInt8) : W32 := sumC (a ++ [0, 0, 0, 0] ++ c)
def blkB (first : Nat) (rs : List Rec) : List UInt8 := preB first rs.length ++ bl 4 (sumAll (preB first rs.length) (bodyZ rs)).toNat ++ bodyZ rs

theorem preB_length (first n : Nat) : (preB first n).length = 14 := by simp [preB, mag, bl_length]
theorem bodyZ_length {rs : List Rec} (h : (bodyB rs).length ≤ 494) : (bodyZ rs).length = 494 := by
  rw [bodyZ, List.length_append, List.length_replicate]; omega
theorem blkB_length {first : Nat} {rs : List Rec} (h : (bodyB rs).length ≤ 494) : (blkB first rs).length = 512 := by
  rw [blkB, List.length_append, List.length_append, preB_length, bl_length, bodyZ_length h]

/-- The records of a block's Room. -/
def parseR : Nat → List UInt8 → Option (List Rec)
  | 0, bs => if bs = List.replicate bs.length 0 then some [] else none
  | n + 1, bs =>
    if 2 ≤ bs.length ∧ lb (bs.take 2) ≤ 200 ∧ 2 + lb (bs.take 2) ≤ bs.length then
      (parseR n (bs.drop (2 + lb (bs.take 2)))).map (((bs.drop 2).take (lb (bs.take 2))) :: ·)
    else none

inductive DecE
  | short | form | sum

def decB (b : List UInt8) : Except DecE (Nat × List Rec) :=
  if b.length < 512 then .error .short
  else if 512 < b.length ∨ b.take 4 ≠ mag then .error .form
  else if lb ((b.drop 14).take 4) ≠ (sumAll (b.take 14) (b.drop 18)).toNat then .error .sum
  else if lb ((b.drop 12).take 2) = 0 ∨ lb ((b.drop 4).take 8) = 0 ∨ 2 ^ 62 + 1 < lb ((b.drop 4).take 8) + lb ((b.drop 12).take 2) then .error .form
  else match parseR (lb ((b.drop 12).take 2)) (b.drop 18) with
    | none => .error .form
    | some rs => .ok (lb ((b.drop 4).take 8), rs)

theorem parse_body : ∀ (rs : List Rec) (k : Nat), (∀ r ∈ rs, r.length ≤ 200) → parseR rs.length (bodyB rs ++ List.replicate k 0) = some rs
  | [], k, _ => by
    rw [List.length_nil, bodyB_nil, List.nil_append, parseR, if_pos (by simp)]
  | r :: rs, k, h => by
    have hr := h r (by simp)
    have e1 : (bodyB (r :: rs) ++ List.replicate k 0).take 2 = bl 2 r.length := by
      rw [bodyB_cons, recB, List.append_assoc, List.append_assoc]
      exact List.take_left' (bl_length _ _)
    have e2 : lb (bl 2 r.length) = r.length := lb_bl _ _ (by omega)
    have e3 : (bodyB (r :: rs) ++ List.replicate k 0).drop (2 + r.length) = bodyB rs ++ List.replicate k 0 := by
      rw [bodyB_cons, List.append_assoc]
      exact List.drop_left' (recB_length r)
    have e4 : ((bodyB (r :: rs) ++ List.replicate k 0).drop 2).take r.length = r := by
      rw [bodyB_cons, recB, List.append_assoc, List.append_assoc, List.drop_left' (bl_length _ _)]
      exact List.take_left' rfl
    rw [List.length_cons, parseR, e1, e2, e3, e4, parse_body rs k (fun x hx => h x (by simp [hx])), if_pos]
    · rfl
    · rw [List.length_append, bodyB_cons_length]; omega

theorem parse_back : ∀ (n : Nat) (bs : List UInt8) (rs : List Rec), parseR n bs = some rs → rs.length = n ∧ (∀ r ∈ rs, r.length ≤ 200) ∧ ∃ k, bs = bodyB rs ++ List.replicate k 0
  | 0, bs, rs, h => by
    rw [parseR] at h
    split at h
    · rename_i hz
      obtain rfl : [] = rs := Option.some.inj h
      exact ⟨rfl, by simp, bs.length, hz⟩
    · cases h
  | n + 1, bs, rs, h => by
    rw [parseR] at h
    split at h
    · rename_i hc
      obtain ⟨h1, h2, h3⟩ := hc
      obtain ⟨rs', h4, rfl⟩ := Option.map_eq_some_iff.1 h
      obtain ⟨h5, h6, k, h7⟩ := parse_back n _ rs' h4
      have hlen : ((bs.drop 2).take (lb (bs.take 2))).length = lb (bs.take 2) := by rw [List.length_take, List.length_drop]; omega
      refine ⟨by rw [List.length_cons, h5], fun r hr => ?_, k, ?_⟩
      · rcases List.mem_cons.1 hr with rfl | hr
        · rw [hlen]; exact h2
        · exact h6 r hr
      · rw [bodyB_cons, recB, hlen, List.append_assoc, ← h7]
        have e1 : bl 2 (lb (bs.take 2)) = bs.take 2 := by
          have := bl_lb (bs.take 2)
          rwa [show (bs.take 2).length = 2 by rw [List.length_take]; omega] at this
        rw [e1, ← List.drop_drop, List.append_assoc, List.take_append_drop, List.take_append_drop]
    · cases h

/-- The places of a block. -/
theorem blkB_parts {first : Nat} {rs : List Rec} (h : FitB first rs) : (blkB first rs).take 14 = preB first rs.length ∧ ((blkB first rs).drop 14).take 4 = bl 4 (sumAll (preB first rs.length) (bodyZ rs)).toNat ∧ (blkB first rs).drop 18 = bodyZ rs ∧
    (blkB first rs).take 4 = mag ∧ ((blkB first rs).drop 4).take 8 = bl 8 first ∧ ((blkB first rs).drop 12).take 2 = bl 2 rs.length := by
  have l1 := preB_length first rs.length
  have l2 := bl_length 4 (sumAll (preB first rs.length) (bodyZ rs)).toNat
  have l3 := bl_length 8 first
  have l4 := bl_length 2 rs.length
  have lm : mag.length = 4 := rfl
  refine ⟨?_, ?_, ?_, ?_, ?_, ?_⟩
  · rw [blkB, List.append_assoc]; exact List.take_left' l1
  · rw [blkB, List.append_assoc, List.drop_left' l1]; exact List.take_left' l2
  · rw [blkB]; exact List.drop_left' (by rw [List.length_append, l1, l2])
  · rw [blkB, preB]; simp only [List.append_assoc]; exact List.take_left' lm
  · rw [blkB, preB]; simp only [List.append_assoc]; rw [List.drop_left' lm]; exact List.take_left' l3
  · rw [blkB, preB]; simp only [List.append_assoc]; rw [← List.append_assoc, List.drop_left' (by rw [List.length_append, lm, l3])]; exact List.take_left' l4

/-- WHAT IS ENCODED COMES BACK. -/
theorem dec_blk {first : Nat} {rs : List Rec} (h : FitB first rs) : decB (blkB first rs) = .ok (first, rs) := by
  obtain ⟨p1, p2, p3, p4, p5, p6⟩ := blkB_parts h
  have hl := blkB_length (first := first) h.room
  have hone : 0 < rs.length := List.length_pos_iff.2 h.one
  have hcnt := bodyB_count rs
  have hroom := h.room
  have htop := h.top
  have hlow := h.low
  have e1 : lb (bl 8 first) = first := lb_bl _ _ (by omega)
  have e2 : lb (bl 2 rs.length) = rs.length := lb_bl _ _ (by omega)
  have e3 : lb (bl 4 (sumAll (preB first rs.length) (bodyZ rs)).toNat) = (sumAll (preB first rs.length) (bodyZ rs)).toNat := lb_bl _ _ (by have := (sumAll (preB first rs.length) (bodyZ rs)).isLt; omega)
  unfold decB
  rw [hl, p1, p2, p3, p4, p5, p6, e1, e2, e3, if_neg (by omega), if_neg (by simp), if_neg (by simp), if_neg (by omega)]
  show (match parseR rs.length (bodyB rs ++ _) with | none => _ | some rs => _) = _
  rw [parse_body rs _ h.long]

/-- WHAT IS TAKEN IS ENCODED AS THE SAME BYTES. -/
theorem blk_dec {b : List UInt8} {first : Nat} {rs : List Rec} (h : decB b = .ok (first, rs)) : FitB first rs ∧ blkB first rs = b := by
  unfold decB at h
  split at h
  · cases h
  split at h
  · cases h
  split at h
  · cases h
  split at h
  · cases h
  rename_i h1 h2 h3 h4
  split at h
  · cases h
  rename_i rs' hp
  simp only [Except.ok.injEq, Prod.mk.injEq] at h
  obtain ⟨hf, rfl⟩ := h
  obtain ⟨q1, q2, k, q3⟩ := parse_back _ _ _ hp
  have hb : b.length = 512 := by omega
  have h2' : b.take 4 = mag := Classical.byContradiction fun hn => h2 (.inr hn)
  have h3' := Classical.not_not.1 h3
  have hl := congrArg List.length q3
  rw [List.length_append, List.length_replicate, List.length_drop, hb] at hl
  have hz : bodyZ rs' = b.drop 18 := by rw [q3, bodyZ, show 494 - (bodyB rs').length = k by omega]
  have e8 : bl 8 first = (b.drop 4).take 8 := by
    have := bl_lb ((b.drop 4).take 8)
    rwa [show ((b.drop 4).take 8).length = 8 by rw [List.length_take, List.length_drop]; omega, hf] at this
  have e2 : bl 2 rs'.length = (b.drop 12).take 2 := by
    have := bl_lb ((b.drop 12).take 2)
    rwa [show ((b.drop 12).take 2).length = 2 by rw [List.length_take, List.length_drop]; omega, ← q1] at this
  have hpre : preB first rs'.length = b.take 14 := by
    rw [preB, e8, e2, ← h2', List.append_assoc]
    rw [show b.drop 12 = (b.drop 4).drop 8 by rw [List.drop_drop], ← List.take_add, ← List.take_add]
  have e4 : bl 4 (sumAll (preB first rs'.length) (bodyZ rs')).toNat = (b.drop 14).take 4 := by
    have := bl_lb ((b.drop 14).take 4)
    rw [show ((b.drop 14).take 4).length = 4 by rw [List.length_take, List.length_drop]; omega, h3'] at this
    rw [hpre, hz]
    exact this
  refine ⟨⟨fun e => ?_, by omega, by omega, q2, by omega⟩, ?_⟩
  · rw [e] at q1; rw [← q1] at h4; simp at h4
  · rw [blkB, e4, hpre, hz]
    rw [← List.take_add, List.take_append_drop]

end Go.Proofs.YtdddfapelencoaaDoor

set_option linter.unusedVariables false
set_option linter.unusedSimpArgs false
namespace Go.Proofs.YtdddfapelencoaaDoor
open Go

structure RecV where
  kind : Int
  floor : Nat
  key : List UInt8
  pk : Int
  gap : Nat
  slack : Nat
  limit : Nat
  span : Nat
  tat : Nat
  idx : Nat
  cnt : Nat
deriving DecidableEq

def polOk (r : RecV) : Prop := (r.pk = 1 ∧ 1 ≤ r.gap ∧ r.limit = 0 ∧ r.span = 0) ∨ (r.pk = 2 ∧ 1 ≤ r.span ∧ r.gap = 0 ∧ r.slack = 0)
def polNo (r : RecV) : Prop := r.pk = 0 ∧ r.gap = 0 ∧ r.slack = 0 ∧ r.limit = 0 ∧ r.span = 0
def lvlNo (r : RecV) : Prop := r.tat = 0 ∧ r.idx = 0 ∧ r.cnt = 0
/-- When a record is one. -/
def validR (r : RecV) : Prop := 1 ≤ r.key.length ∧ r.key.length ≤ 64 ∧ ((r.kind = 1 ∧ polOk r ∧ lvlNo r) ∨ (r.kind = 2 ∧ polNo r ∧ lvlNo r) ∨ (r.kind = 3 ∧ polNo r ∧ (r.tat = 0 ∨ r.idx = 0 ∧ r.cnt = 0)))
instance (r : RecV) : Decidable (polOk r) := by unfold polOk; infer_instance
instance (r : RecV) : Decidable (polNo r) := by unfold polNo; infer_instance
instance (r : RecV) : Decidable (lvlNo r) := by unfold lvlNo; infer_instance
instance (r : RecV) : Decidable (validR r) := by unfold validR; infer_instance
/-- Its numbers have 64 bits. -/
structure Fit64 (r : RecV) : Prop where
  floor : r.floor < 256 ^ 8
  gap : r.gap < 256 ^ 8
  slack : r.slack < 256 ^ 8
  limit : r.limit < 256 ^ 8
  span : r.span < 256 ^ 8
  tat : r.tat < 256 ^ 8
  idx : r.idx < 256 ^ 8
  cnt : r.cnt < 256 ^ 8

/-- A policy's bytes. -/
def encP (r : RecV) : List UInt8 := bl 1 r.pk.toNat ++ (if r.pk = 1 then bl 8 r.gap ++ bl 8 r.slack else bl 8 r.limit ++ bl 8 r.span)
def encL (r : RecV) : List UInt8 := bl 8 r.tat ++ (bl 8 r.idx ++ bl 8 r.cnt)
def encH (r : RecV) : List UInt8 := bl 8 r.floor ++ (bl 2 r.key.length ++ r.key)
def encT (r : RecV) : List UInt8 := if r.kind = 1 then encP r else if r.kind = 3 then encL r else []
def encR (r : RecV) : List UInt8 := bl 1 r.kind.toNat ++ (encH r ++ encT r)

/-- The next n bytes as a number. -/
def rd (n : Nat) (bs : List UInt8) : Option (Nat × List UInt8) := if bs.length < n then none else some (lb (bs.take n), bs.drop n)
def rdT (n : Nat) (bs : List UInt8) : Option (List UInt8 × List UInt8) := if bs.length < n then none else some (bs.take n, bs.drop n)
theorem rd_bl (n x : Nat) (r : List UInt8) (h : x < 256 ^ n) : rd n (bl n x ++ r) = some (x, r) := by
  have hl := bl_length n x
  unfold rd
  rw [if_neg (by rw [List.length_append, hl]; omega), List.take_append_of_le_length (by omega), List.take_of_length_le (by omega), lb_bl n x h, List.drop_append_of_le_length (by omega), List.drop_of_length_le (by omega), List.nil_append]
theorem rdT_key (k r : List UInt8) : rdT k.length (k ++ r) = some (k, r) := by
  unfold rdT
  rw [if_neg (by rw [List.length_append]; omega), List.take_left, List.drop_left]
theorem rd_inv {n : Nat} {bs : List UInt8} {x : Nat} {r : List UInt8} (h : rd n bs = some (x, r)) : bs = bl n x ++ r ∧ x < 256 ^ n := by
  unfold rd at h
  split at h
  · cases h
  · rename_i hn
    simp only [Option.some.injEq, Prod.mk.injEq] at h
    obtain ⟨rfl, rfl⟩ := h
    have hl : (bs.take n).length = n := by rw [List.length_take]; omega
    have e := bl_lb (bs.take n)
    have hlt := lb_lt (bs.take n)
    rw [hl] at e hlt
    exact ⟨by rw [e, List.take_append_drop], hlt⟩
theorem rdT_inv {n : Nat} {bs k r : List UInt8} (h : rdT n bs = some (k, r)) : bs = k ++ r ∧ k.length = n := by
  unfold rdT at h
  split at h
  · cases h
  · simp only [Option.some.injEq, Prod.mk.injEq] at h
    obtain ⟨rfl, rfl⟩ := h
    exact ⟨(List.take_append_drop n bs).symm, by rw [List.length_take]; omega⟩
theorem rd_more {n : Nat} {bs : List UInt8} {x : Nat} {r : List UInt8} (h : rd n bs = some (x, r)) (m : List UInt8) : rd n (bs ++ m) = some (x, r ++ m) := by
  obtain ⟨rfl, hx⟩ := rd_inv h
  rw [List.append_assoc]
  exact rd_bl n x _ hx
theorem rdT_more {n : Nat} {bs k r : List UInt8} (h : rdT n bs = some (k, r)) (m : List UInt8) : rdT n (bs ++ m) = some (k, r ++ m) := by
  obtain ⟨rfl, rfl⟩ := rdT_inv h
  rw [List.append_assoc]
  exact rdT_key k _

def polV (k : Nat) (x y : Nat) (r : RecV) : RecV := if k = 1 then { r with pk := k, gap := x, slack := y } else { r with pk := k, limit := x, span := y }
def rec0 (kind : Int) (floor : Nat) (key : List UInt8) : RecV := ⟨kind, floor, key, 0, 0, 0, 0, 0, 0, 0, 0⟩
/-- The fields behind the kind; none where the bytes end too early. -/
def fields (k : Nat) (bs : List UInt8) : Option (RecV × List UInt8) :=
  (rd 8 bs).bind fun (f, b1) => (rd 2 b1).bind fun (n, b2) => (rdT n b2).bind fun (key, b3) =>
    if k = 1 then (rd 1 b3).bind fun (p, b4) => (rd 8 b4).bind fun (x, b5) => (rd 8 b5).bind fun (y, b6) => some (polV p x y (rec0 k f key), b6)
    else if k = 3 then (rd 8 b3).bind fun (t, b4) => (rd 8 b4).bind fun (i, b5) => (rd 8 b5).bind fun (c, b6) => some ({ rec0 k f key with tat := t, idx := i, cnt := c }, b6)
    else some (rec0 k f key, b3)
inductive RecE
  | short | form
deriving DecidableEq
def decR (bs : List UInt8) : Except RecE RecV :=
  match rd 1 bs with
  | none => .error .short
  | some (k, b) =>
    if k < 1 ∨ 3 < k then .error .form
    else match fields k b with
      | none => .error .short
      | some (r, rest) => if rest ≠ [] ∨ ¬ validR r then .error .form else .ok r

theorem fields_more {k : Nat} {bs : List UInt8} {r : RecV} {rest : List UInt8} (h : fields k bs = some (r, rest)) (m : List UInt8) : fields k (bs ++ m) = some (r, rest ++ m) := by
  unfold fields at h ⊢
  obtain ⟨⟨f, b1⟩, h1, h⟩ := Option.bind_eq_some_iff.1 h
  rw [rd_more h1 m, Option.bind_some]
  obtain ⟨⟨n, b2⟩, h2, h⟩ := Option.bind_eq_some_iff.1 h
  simp only at h2 ⊢
  rw [rd_more h2 m, Option.bind_some]
  obtain ⟨⟨key, b3⟩, h3, h⟩ := Option.bind_eq_some_iff.1 h
  simp only at h3 h ⊢
  rw [rdT_more h3 m, Option.bind_some]
  simp only
  by_cases k1 : k = 1
  · rw [if_pos k1] at h ⊢
    obtain ⟨⟨p, b4⟩, h4, h⟩ := Option.bind_eq_some_iff.1 h
    rw [rd_more h4 m, Option.bind_some]
    obtain ⟨⟨x, b5⟩, h5, h⟩ := Option.bind_eq_some_iff.1 h
    simp only at h5 ⊢
    rw [rd_more h5 m, Option.bind_some]
    obtain ⟨⟨y, b6⟩, h6, h⟩ := Option.bind_eq_some_iff.1 h
    simp only at h6 h ⊢
    rw [rd_more h6 m, Option.bind_some]
    simp only [Option.some.injEq, Prod.mk.injEq] at h ⊢
    exact ⟨h.1, by rw [h.2]⟩
  · rw [if_neg k1] at h ⊢
    by_cases k3 : k = 3
    · rw [if_pos k3] at h ⊢
      obtain ⟨⟨p, b4⟩, h4, h⟩ := Option.bind_eq_some_iff.1 h
      rw [rd_more h4 m, Option.bind_some]
      obtain ⟨⟨x, b5⟩, h5, h⟩ := Option.bind_eq_some_iff.1 h
      simp only at h5 ⊢
      rw [rd_more h5 m, Option.bind_some]
      obtain ⟨⟨y, b6⟩, h6, h⟩ := Option.bind_eq_some_iff.1 h
      simp only at h6 h ⊢
      rw [rd_more h6 m, Option.bind_some]
      simp only [Option.some.injEq, Prod.mk.injEq] at h ⊢
      exact ⟨h.1, by rw [h.2]⟩
    · rw [if_neg k3] at h ⊢
      simp only [Option.some.injEq, Prod.mk.injEq] at h ⊢
      exact ⟨h.1, by rw [h.2]⟩

theorem fields_enc {r : RecV} (hv : validR r) (hf : Fit64 r) (rest : List UInt8) : fields r.kind.toNat (encH r ++ encT r ++ rest) = some (r, rest) := by
  obtain ⟨k1, k2, hc⟩ := hv
  obtain ⟨kind, floor, key, pk, gap, slack, limit, span, tat, idx, cnt⟩ := r
  simp only at k1 k2 hc
  have hk : key.length < 256 ^ 2 := by omega
  unfold fields encH
  simp only [List.append_assoc]
  rw [rd_bl 8 floor _ hf.floor, Option.bind_some]
  simp only
  rw [rd_bl 2 key.length _ hk, Option.bind_some]
  simp only
  rw [rdT_key, Option.bind_some]
  simp only
  rcases hc with ⟨rfl, hp, hl⟩ | ⟨rfl, hp, hl⟩ | ⟨rfl, hp, hl⟩
  · obtain ⟨l1, l2, l3⟩ := hl
    simp only at l1 l2 l3
    subst l1 l2 l3
    rcases hp with ⟨p1, p2, p3, p4⟩ | ⟨p1, p2, p3, p4⟩
    · simp only at p1 p2 p3 p4
      subst p1 p3 p4
      simp only [encT, encP, if_true, List.append_assoc]
      rw [if_pos (show (1 : Int).toNat = 1 by decide), rd_bl 1 _ _ (by decide), Option.bind_some]
      simp only
      rw [rd_bl 8 gap _ hf.gap, Option.bind_some]
      simp only
      rw [rd_bl 8 slack _ hf.slack, Option.bind_some]
      rfl
    · simp only at p1 p2 p3 p4
      subst p1 p3 p4
      simp only [encT, encP, if_true, List.append_assoc]
      rw [if_pos (show (1 : Int).toNat = 1 by decide), rd_bl 1 _ _ (by decide), Option.bind_some]
      rw [if_neg (show ¬ ((2 : Int) = 1) by decide)]
      simp only [List.append_assoc]
      rw [rd_bl 8 limit _ hf.limit, Option.bind_some]
      simp only
      rw [rd_bl 8 span _ hf.span, Option.bind_some]
      rfl
  · obtain ⟨l1, l2, l3⟩ := hl
    obtain ⟨p1, p2, p3, p4, p5⟩ := hp
    simp only at l1 l2 l3 p1 p2 p3 p4 p5
    subst l1 l2 l3 p1 p2 p3 p4 p5
    rfl
  · obtain ⟨p1, p2, p3, p4, p5⟩ := hp
    simp only at p1 p2 p3 p4 p5
    subst p1 p2 p3 p4 p5
    rw [if_neg (show ¬ (3 : Int).toNat = 1 by decide), if_pos (show (3 : Int).toNat = 3 by decide)]
    unfold encT
    rw [if_neg (show ¬ ((3 : Int) = 1) by decide), if_pos rfl]
    unfold encL
    simp only [List.append_assoc]
    rw [rd_bl 8 tat _ hf.tat, Option.bind_some]
    simp only
    rw [rd_bl 8 idx _ hf.idx, Option.bind_some]
    simp only
    rw [rd_bl 8 cnt _ hf.cnt, Option.bind_some]
    rfl

theorem valid_kind {r : RecV} (h : validR r) : 1 ≤ r.kind.toNat ∧ r.kind.toNat ≤ 3 ∧ (r.kind.toNat : Int) = r.kind := by
  rcases h.2.2 with ⟨e, _⟩ | ⟨e, _⟩ | ⟨e, _⟩ <;> rw [e] <;> decide
/-- There and back. -/
theorem dec_enc {r : RecV} (hv : validR r) (hf : Fit64 r) (more : List UInt8) : decR (encR r ++ more) = if more = [] then .ok r else .error .form := by
  obtain ⟨h1, h2, h3⟩ := valid_kind hv
  unfold decR encR
  rw [List.append_assoc, rd_bl 1 _ _ (by omega)]
  simp only
  rw [if_neg (by omega), fields_enc hv hf more]
  simp only
  by_cases hm : more = []
  · rw [if_neg (by simp [hm, hv]), if_pos hm]
  · rw [if_pos (.inl hm), if_neg hm]
/-- Each beginning ends too early. -/
theorem dec_cut {r : RecV} (hv : validR r) (hf : Fit64 r) (k : Nat) (hk : k < (encR r).length) : decR ((encR r).take k) = .error .short := by
  obtain ⟨h1, h2, h3⟩ := valid_kind hv
  cases k with
  | zero => rfl
  | succ k =>
    have e1 : (encR r).take (k + 1) = bl 1 r.kind.toNat ++ (encH r ++ encT r).take k := by
      unfold encR
      have hl := bl_length 1 r.kind.toNat
      rw [List.take_append, hl, List.take_of_length_le (by omega), Nat.add_sub_cancel]
    rw [e1]
    unfold decR
    rw [rd_bl 1 _ _ (by omega)]
    simp only
    rw [if_neg (by omega)]
    cases hq : fields r.kind.toNat ((encH r ++ encT r).take k) with
    | none => rfl
    | some q =>
      obtain ⟨q, rest⟩ := q
      have h4 := fields_more hq ((encH r ++ encT r).drop k)
      rw [List.take_append_drop] at h4
      have h5 := fields_enc hv hf []
      rw [List.append_nil] at h5
      rw [h5] at h4
      simp only [Option.some.injEq, Prod.mk.injEq] at h4
      have h6 := h4.2.symm
      rw [List.append_eq_nil_iff] at h6
      have h7 := congrArg List.length h6.2
      have h8 : (encR r).length = 1 + (encH r ++ encT r).length := by unfold encR; rw [List.length_append, bl_length]
      rw [List.length_drop] at h7
      simp only [List.length_nil] at h7
      omega

theorem encT_3 (r : RecV) (h : r.kind = 3) : encT r = encL r := by
  unfold encT
  rw [if_neg (by rw [h]; decide), if_pos h]
theorem fields_inv {k : Nat} {bs : List UInt8} {r : RecV} {rest : List UInt8} (h : fields k bs = some (r, rest)) (hk : 1 ≤ k) (hk3 : k ≤ 3) : bs = encH r ++ (encT r ++ rest) ∧ r.kind = k ∧ Fit64 r := by
  unfold fields at h
  obtain ⟨⟨f, b1⟩, h1, g⟩ := Option.bind_eq_some_iff.1 h
  clear h
  have h := g
  clear g
  try dsimp only at h
  obtain ⟨rfl, hf⟩ := rd_inv h1
  obtain ⟨⟨n, b2⟩, h2, g⟩ := Option.bind_eq_some_iff.1 h
  clear h
  have h := g
  clear g
  try dsimp only at h
  have h2 : rd 2 b1 = some (n, b2) := h2
  obtain ⟨rfl, hn⟩ := rd_inv h2
  obtain ⟨⟨key, b3⟩, h3, g⟩ := Option.bind_eq_some_iff.1 h
  clear h
  have h := g
  clear g
  try dsimp only at h
  have h3 : rdT n b2 = some (key, b3) := h3
  try dsimp only at h
  obtain ⟨rfl, rfl⟩ := rdT_inv h3
  have z : 0 < 256 ^ 8 := by decide
  by_cases k1 : k = 1
  · subst k1
    rw [if_pos rfl] at h
    obtain ⟨⟨p, b4⟩, h4, g⟩ := Option.bind_eq_some_iff.1 h
    clear h
    have h := g
    clear g
    try dsimp only at h
    have h4 : rd 1 b3 = some (p, b4) := h4
    obtain ⟨rfl, hp⟩ := rd_inv h4
    obtain ⟨⟨x, b5⟩, h5, g⟩ := Option.bind_eq_some_iff.1 h
    clear h
    have h := g
    clear g
    try dsimp only at h
    have h5 : rd 8 b4 = some (x, b5) := h5
    obtain ⟨rfl, hx⟩ := rd_inv h5
    obtain ⟨⟨y, b6⟩, h6, g⟩ := Option.bind_eq_some_iff.1 h
    clear h
    have h := g
    clear g
    try dsimp only at h
    have h6 : rd 8 b5 = some (y, b6) := h6
    try dsimp only at h
    obtain ⟨rfl, hy⟩ := rd_inv h6
    simp only [Option.some.injEq, Prod.mk.injEq] at h
    obtain ⟨rfl, rfl⟩ := h
    by_cases hp1 : p = 1
    · subst hp1
      refine ⟨?_, rfl, ⟨hf, hx, hy, z, z, z, z, z⟩⟩
      simp only [polV, if_true, encH, encT, encP, rec0, List.append_assoc]
      rfl
    · have e : ¬ ((p : Int) = 1) := by omega
      refine ⟨?_, by simp only [polV, if_neg hp1]; rfl, by simp only [polV, if_neg hp1]; exact ⟨hf, z, z, hx, hy, z, z, z⟩⟩
      simp only [polV, if_neg hp1, encH, encT, encP, rec0, List.append_assoc, if_neg e, Int.toNat_natCast]
      rfl
  · rw [if_neg k1] at h
    by_cases k3 : k = 3
    · subst k3
      rw [if_pos rfl] at h
      obtain ⟨⟨p, b4⟩, h4, g⟩ := Option.bind_eq_some_iff.1 h
      clear h
      have h := g
      clear g
      try dsimp only at h
      have h4 : rd 8 b3 = some (p, b4) := h4
      obtain ⟨rfl, hp⟩ := rd_inv h4
      obtain ⟨⟨x, b5⟩, h5, g⟩ := Option.bind_eq_some_iff.1 h
      clear h
      have h := g
      clear g
      try dsimp only at h
      have h5 : rd 8 b4 = some (x, b5) := h5
      obtain ⟨rfl, hx⟩ := rd_inv h5
      obtain ⟨⟨y, b6⟩, h6, g⟩ := Option.bind_eq_some_iff.1 h
      clear h
      have h := g
      clear g
      try dsimp only at h
      have h6 : rd 8 b5 = some (y, b6) := h6
      try dsimp only at h
      obtain ⟨rfl, hy⟩ := rd_inv h6
      simp only [Option.some.injEq, Prod.mk.injEq] at h
      obtain ⟨rfl, rfl⟩ := h
      refine ⟨?_, rfl, ⟨hf, z, z, z, z, hp, hx, hy⟩⟩
      rw [encT_3 _ rfl]
      simp only [encH, encL, rec0, List.append_assoc]
    · rw [if_neg k3] at h
      simp only [Option.some.injEq, Prod.mk.injEq] at h
      obtain ⟨rfl, rfl⟩ := h
      have k2 : k = 2 := by omega
      subst k2
      refine ⟨?_, rfl, ⟨hf, z, z, z, z, z, z, z⟩⟩
      simp only [encH, encT, rec0, List.append_assoc]
      rfl
/-- What is decoded is a record, and its bytes are these. -/
theorem enc_dec {bs : List UInt8} {r : RecV} (h : decR bs = .ok r) : validR r ∧ Fit64 r ∧ encR r = bs := by
  unfold decR at h
  cases h1 : rd 1 bs with
  | none => rw [h1] at h; cases h
  | some q =>
    obtain ⟨k, b⟩ := q
    rw [h1] at h
    try simp only at h
    by_cases hk : k < 1 ∨ 3 < k
    · rw [if_pos hk] at h; cases h
    · rw [if_neg hk] at h
      cases h2 : fields k b with
      | none => rw [h2] at h; cases h
      | some q =>
        obtain ⟨r', rest⟩ := q
        rw [h2] at h
        try simp only at h
        by_cases hb : rest ≠ [] ∨ ¬ validR r'
        · rw [if_pos hb] at h; cases h
        · rw [if_neg hb] at h
          cases h
          have hr : rest = [] := Decidable.of_not_not (fun e => hb (.inl e))
          have hv : validR r := Decidable.of_not_not (fun e => hb (.inr e))
          obtain ⟨e1, e2, e3⟩ := fields_inv h2 (by omega) (by omega)
          obtain ⟨e4, e5⟩ := rd_inv h1
          refine ⟨hv, e3, ?_⟩
          rw [e4, e1, hr, List.append_nil]
          unfold encR
          rw [e2, Int.toNat_natCast]
/-- It has 12 to 99 bytes. -/
theorem encR_length {r : RecV} (h : validR r) : 12 ≤ (encR r).length ∧ (encR r).length ≤ 99 := by
  obtain ⟨h1, h2, h3⟩ := h
  have e : (encR r).length = 11 + r.key.length + (encT r).length := by
    unfold encR encH
    simp only [List.length_append, bl_length]
    omega
  have e2 : (encT r).length ≤ 24 := by
    unfold encT
    split
    · unfold encP
      split <;> simp only [List.length_append, bl_length] <;> omega
    · split
      · unfold encL
        simp only [List.length_append, bl_length]
        omega
      · simp
  omega
end Go.Proofs.YtdddfapelencoaaDoor
