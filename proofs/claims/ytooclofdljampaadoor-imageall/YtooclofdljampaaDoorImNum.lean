/- image: a state in bytes and what bytes say, in lists alone. Own work. -/
import Derived.Test.YtooclofdljampaaDoorStNum
import Derived.Test.YtooclofdljampaaDoorRcRd
import Derived.Test.YtooclofdljampaaDoorBkTurn
import Derived.Test.YtooclofdljampaaDoorPutText
set_option linter.unusedVariables false
set_option linter.unusedSimpArgs false
namespace Go.Proofs.YtooclofdljampaaDoor
open Go Go.RowKit

inductive ImE where
  | short : ImE
  | form : ImE
  | sum : ImE
deriving DecidableEq

/-- The numbers behind a kind. -/
def numsOf (e : Ent) : List Nat := if e.2.1.k = 1 then [e.2.1.g, e.2.1.s, e.2.2.t] else [e.2.1.l, e.2.1.p, e.2.2.i, e.2.2.c]
def numsB (xs : List Nat) : List UInt8 := xs.flatMap (bl 8)
def entB (e : Ent) : List UInt8 := bl 2 e.1.size ++ Sb e.1 ++ bl 1 e.2.1.k.toNat ++ numsB (numsOf e)
def keysB (xs : List Ent) : List UInt8 := xs.flatMap entB
def mrk : List UInt8 := [84, 73, 48, 49]
def innB (s : StV) : List UInt8 := bl 8 s.lsn ++ bl 8 s.floor ++ bl 4 s.keys.length ++ keysB s.keys
/-- A state's bytes. -/
def imgB (s : StV) : List UInt8 := mrk ++ innB s ++ bl 4 (sumC (mrk ++ innB s)).toNat

/-- An entry that the bytes can hold, and whose other fields are zeros. -/
structure FitE (e : Ent) : Prop where
  key : e.1.size < 65536
  form : (e.2.1.k = 1 ∧ e.2.1.l = 0 ∧ e.2.1.p = 0 ∧ e.2.2.i = 0 ∧ e.2.2.c = 0) ∨ (e.2.1.k = 2 ∧ e.2.1.g = 0 ∧ e.2.1.s = 0 ∧ e.2.2.t = 0)
/-- Its numbers have 64 bits. -/
structure Ent64 (e : Ent) : Prop where
  g : e.2.1.g < 256 ^ 8
  s : e.2.1.s < 256 ^ 8
  l : e.2.1.l < 256 ^ 8
  p : e.2.1.p < 256 ^ 8
  t : e.2.2.t < 256 ^ 8
  i : e.2.2.i < 256 ^ 8
  c : e.2.2.c < 256 ^ 8
structure St64 (s : StV) : Prop where
  lsn : s.lsn < 256 ^ 8
  floor : s.floor < 256 ^ 8
  ent : ∀ e ∈ s.keys, Ent64 e
theorem FitE.of {e : Ent} (h1 : e.1.size ≤ 64) (h2 : pFits e.2.1 e.2.2 = true) : FitE e := by
  refine ⟨by omega, ?_⟩
  obtain ⟨k, ⟨pk, g, s, l, p⟩, ⟨t, i, c⟩⟩ := e
  unfold pFits pForm at h2
  obtain ⟨h3, h4⟩ := of_decide_eq_true h2
  rcases h3 with h | h
  · rw [if_pos h] at h4
    simp only [Lev.mk.injEq, true_and] at h4
    exact .inl ⟨h.1, h.2.2.1, h.2.2.2, h4.1, h4.2⟩
  · rw [if_neg (fun f => f_not_g f h), if_pos h] at h4
    simp only [Lev.mk.injEq, and_true] at h4
    exact .inr ⟨h.1, h.2.2.1, h.2.2.2, h4⟩

/-- The next entry. -/
def entD (bs : List UInt8) : Except ImE (Ent × List UInt8) :=
  let r1 := rdTA (some bs)
  let r2 := rdA 1 r1.2
  match r2.2 with
  | none => .error .short
  | some _ =>
    if r2.1 = 1 then
      let r3 := rdA 8 r2.2
      let r4 := rdA 8 r3.2
      let r5 := rdA 8 r4.2
      match r5.2 with
      | none => .error .short
      | some rest => .ok ((⟨r1.1.toArray⟩, ⟨1, r3.1, r4.1, 0, 0⟩, ⟨r5.1, 0, 0⟩), rest)
    else if r2.1 = 2 then
      let r3 := rdA 8 r2.2
      let r4 := rdA 8 r3.2
      let r5 := rdA 8 r4.2
      let r6 := rdA 8 r5.2
      match r6.2 with
      | none => .error .short
      | some rest => .ok ((⟨r1.1.toArray⟩, ⟨2, 0, 0, r3.1, r4.1⟩, ⟨0, r5.1, r6.1⟩), rest)
    else .error .form
def rowsD : Nat → List UInt8 → Except ImE (List Ent × List UInt8)
  | 0, bs => .ok ([], bs)
  | n + 1, bs => match entD bs with
    | .error e => .error e
    | .ok (e, r) => match rowsD n r with
      | .error e => .error e
      | .ok (es, r') => .ok (e :: es, r')
/-- What stands between the mark and the sum. -/
def innD (bs : List UInt8) : Except ImE StV :=
  if 4096 < lb ((bs.drop 16).take 4) then .error .form
  else match rowsD (lb ((bs.drop 16).take 4)) (bs.drop 20) with
    | .error e => .error e
    | .ok (es, r) => if r ≠ [] ∨ okS ⟨lb (bs.take 8), lb ((bs.drop 8).take 8), es⟩ = false then .error .form else .ok ⟨lb (bs.take 8), lb ((bs.drop 8).take 8), es⟩
def decI (b : List UInt8) : Except ImE StV :=
  if b.length < 28 then .error .short
  else if b.take 4 ≠ mrk then .error .form
  else if lb (b.drop (b.length - 4)) ≠ (sumC (b.take (b.length - 4))).toNat then .error .sum
  else innD ((b.take (b.length - 4)).drop 4)

theorem rdA_bl (n x : Nat) (r : List UInt8) (h : x < 256 ^ n) : rdA n (some (bl n x ++ r)) = (x, some r) := by
  have hl := bl_length n x
  unfold rdA
  simp only
  rw [if_neg (by rw [List.length_append, hl]; omega), List.take_append_of_le_length (by omega), List.take_of_length_le (by omega), lb_bl n x h, List.drop_append_of_le_length (by omega), List.drop_of_length_le (by omega), List.nil_append]
theorem rdTA_key (k r : List UInt8) (h : k.length < 65536) : rdTA (some (bl 2 k.length ++ k ++ r)) = (k, some r) := by
  have hl := bl_length 2 k.length
  have e1 : (bl 2 k.length ++ k ++ r).take 2 = bl 2 k.length := by rw [List.append_assoc, List.take_append_of_le_length (by omega), List.take_of_length_le (by omega)]
  have e2 : (bl 2 k.length ++ k ++ r).drop 2 = k ++ r := by rw [List.append_assoc, List.drop_append_of_le_length (by omega), List.drop_of_length_le (by omega), List.nil_append]
  unfold rdTA
  simp only
  rw [e1, e2, lb_bl 2 k.length (by omega), if_neg (by rw [List.length_append, List.length_append, hl]; omega), if_neg (by rw [List.length_append]; omega), List.take_left, List.drop_left]
theorem rdA_inv {n : Nat} {st : Option (List UInt8)} {r : List UInt8} (h : (rdA n st).2 = some r) : st = some (bl n (rdA n st).1 ++ r) ∧ (rdA n st).1 < 256 ^ n := by
  refine ⟨?_, rdA_lt n st⟩
  cases st with
  | none => cases h
  | some bs =>
    unfold rdA at h ⊢
    simp only at h ⊢
    split at h
    · cases h
    · rename_i hn
      rw [if_neg hn]
      simp only [Option.some.injEq] at h ⊢
      subst h
      have hl : (bs.take n).length = n := by rw [List.length_take]; omega
      have e := bl_lb (bs.take n)
      rw [hl] at e
      rw [e, List.take_append_drop]
theorem rdTA_inv {st : Option (List UInt8)} {r : List UInt8} (h : (rdTA st).2 = some r) : st = some (bl 2 (rdTA st).1.length ++ (rdTA st).1 ++ r) ∧ (rdTA st).1.length < 65536 := by
  refine ⟨?_, rdTA_lt st⟩
  cases st with
  | none => cases h
  | some bs =>
    unfold rdTA at h ⊢
    simp only at h ⊢
    split at h
    · cases h
    · rename_i h1
      split at h
      · cases h
      · rename_i h2
        rw [if_neg h1, if_neg h2]
        simp only [Option.some.injEq] at h ⊢
        subst h
        have hl : (bs.take 2).length = 2 := by rw [List.length_take]; omega
        have e := bl_lb (bs.take 2)
        rw [hl] at e
        have e3 : ((bs.drop 2).take (lb (bs.take 2))).length = lb (bs.take 2) := by rw [List.length_take]; omega
        rw [e3, e, List.append_assoc, List.take_append_drop, List.take_append_drop]
theorem numsB_cons (x : Nat) (xs : List Nat) : numsB (x :: xs) = bl 8 x ++ numsB xs := rfl
theorem numsB_nil : numsB [] = [] := rfl

theorem entD_ent {e : Ent} (h : FitE e) (h64 : Ent64 e) (r : List UInt8) : entD (entB e ++ r) = .ok (e, r) := by
  obtain ⟨key, ⟨pk, g, s, l, p⟩, ⟨t, i, c⟩⟩ := e
  obtain ⟨hk, hf⟩ := h
  obtain ⟨a1, a2, a3, a4, a5, a6, a7⟩ := h64
  simp only at hk hf a1 a2 a3 a4 a5 a6 a7
  have hl : key.size = (Sb key).length := (Sb_len key).symm
  rcases hf with ⟨rfl, rfl, rfl, rfl, rfl⟩ | ⟨rfl, rfl, rfl, rfl⟩
  · have e1 : entB (key, ⟨1, g, s, 0, 0⟩, ⟨t, 0, 0⟩) ++ r = bl 2 (Sb key).length ++ Sb key ++ (bl 1 1 ++ (bl 8 g ++ (bl 8 s ++ (bl 8 t ++ r)))) := by
      unfold entB numsOf
      rw [if_pos rfl, numsB_cons, numsB_cons, numsB_cons, numsB_nil, ← hl]
      simp only [List.append_assoc, List.append_nil]
      rfl
    unfold entD
    rw [e1, rdTA_key _ _ (by omega)]
    simp only
    rw [rdA_bl 1 1 _ (by omega)]
    simp only [if_true]
    rw [rdA_bl 8 g _ a1]
    simp only
    rw [rdA_bl 8 s _ a2]
    simp only
    rw [rdA_bl 8 t _ a5]
  · have e1 : entB (key, ⟨2, 0, 0, l, p⟩, ⟨0, i, c⟩) ++ r = bl 2 (Sb key).length ++ Sb key ++ (bl 1 2 ++ (bl 8 l ++ (bl 8 p ++ (bl 8 i ++ (bl 8 c ++ r))))) := by
      unfold entB numsOf
      rw [if_neg (by simp), numsB_cons, numsB_cons, numsB_cons, numsB_cons, numsB_nil, ← hl]
      simp only [List.append_assoc, List.append_nil]
      rfl
    unfold entD
    rw [e1, rdTA_key _ _ (by omega)]
    simp only
    rw [rdA_bl 1 2 _ (by omega)]
    simp only [if_true]
    rw [if_neg (by omega), rdA_bl 8 l _ a3]
    simp only
    rw [rdA_bl 8 p _ a4]
    simp only
    rw [rdA_bl 8 i _ a6]
    simp only
    rw [rdA_bl 8 c _ a7]

theorem entD_inv {bs : List UInt8} {e : Ent} {r : List UInt8} (h : entD bs = .ok (e, r)) : bs = entB e ++ r ∧ FitE e ∧ Ent64 e := by
  have z : (0 : Nat) < 256 ^ 8 := by decide
  unfold entD at h
  simp only at h
  generalize h1 : rdTA (some bs) = r1 at h
  obtain ⟨key, s1⟩ := r1
  simp only at h
  generalize h2 : rdA 1 s1 = r2 at h
  obtain ⟨k, s2⟩ := r2
  simp only at h
  cases s2 with
  | none => simp at h
  | some b2 =>
    have i2 := rdA_inv (n := 1) (st := s1) (r := b2) (by rw [h2])
    rw [h2] at i2
    obtain ⟨rfl, _⟩ := i2
    have i1 := rdTA_inv (st := some bs) (by rw [h1])
    rw [h1] at i1
    simp only [Option.some.injEq] at i1
    obtain ⟨rfl, hkey⟩ := i1
    simp only at h
    split at h
    · rename_i k1
      subst k1
      generalize h3 : rdA 8 (some b2) = r3 at h
      obtain ⟨x3, s3⟩ := r3
      simp only at h
      generalize h4 : rdA 8 s3 = r4 at h
      obtain ⟨x4, s4⟩ := r4
      simp only at h
      generalize h5 : rdA 8 s4 = r5 at h
      obtain ⟨x5, s5⟩ := r5
      simp only at h
      cases s5 with
      | none => simp at h
      | some b5 =>
        simp only [Except.ok.injEq, Prod.mk.injEq] at h
        obtain ⟨rfl, rfl⟩ := h
        have i5 := rdA_inv (n := 8) (st := s4) (r := b5) (by rw [h5])
        rw [h5] at i5
        obtain ⟨rfl, l5⟩ := i5
        have i4 := rdA_inv (n := 8) (st := s3) (by rw [h4])
        rw [h4] at i4
        obtain ⟨rfl, l4⟩ := i4
        have i3 := rdA_inv (n := 8) (st := some b2) (by rw [h3])
        rw [h3] at i3
        simp only [Option.some.injEq] at i3
        obtain ⟨rfl, l3⟩ := i3
        refine ⟨?_, ⟨hkey, .inl ⟨rfl, rfl, rfl, rfl, rfl⟩⟩, ⟨l3, l4, z, z, l5, z, z⟩⟩
        unfold entB numsOf
        rw [if_pos rfl, numsB_cons, numsB_cons, numsB_cons, numsB_nil]
        simp only [List.append_assoc, List.append_nil]
        rfl
    · split at h
      · rename_i k1 k2
        subst k2
        generalize h3 : rdA 8 (some b2) = r3 at h
        obtain ⟨x3, s3⟩ := r3
        simp only at h
        generalize h4 : rdA 8 s3 = r4 at h
        obtain ⟨x4, s4⟩ := r4
        simp only at h
        generalize h5 : rdA 8 s4 = r5 at h
        obtain ⟨x5, s5⟩ := r5
        simp only at h
        generalize h6 : rdA 8 s5 = r6 at h
        obtain ⟨x6, s6⟩ := r6
        simp only at h
        cases s6 with
        | none => simp at h
        | some b6 =>
          simp only [Except.ok.injEq, Prod.mk.injEq] at h
          obtain ⟨rfl, rfl⟩ := h
          have i6 := rdA_inv (n := 8) (st := s5) (r := b6) (by rw [h6])
          rw [h6] at i6
          obtain ⟨rfl, l6⟩ := i6
          have i5 := rdA_inv (n := 8) (st := s4) (by rw [h5])
          rw [h5] at i5
          obtain ⟨rfl, l5⟩ := i5
          have i4 := rdA_inv (n := 8) (st := s3) (by rw [h4])
          rw [h4] at i4
          obtain ⟨rfl, l4⟩ := i4
          have i3 := rdA_inv (n := 8) (st := some b2) (by rw [h3])
          rw [h3] at i3
          simp only [Option.some.injEq] at i3
          obtain ⟨rfl, l3⟩ := i3
          refine ⟨?_, ⟨hkey, .inr ⟨rfl, rfl, rfl, rfl⟩⟩, ⟨z, z, l3, l4, z, l5, l6⟩⟩
          unfold entB numsOf
          rw [if_neg (by simp), numsB_cons, numsB_cons, numsB_cons, numsB_cons, numsB_nil]
          simp only [List.append_assoc, List.append_nil]
          rfl
      · cases h

theorem keysB_cons (e : Ent) (xs : List Ent) : keysB (e :: xs) = entB e ++ keysB xs := rfl
theorem keysB_append (xs ys : List Ent) : keysB (xs ++ ys) = keysB xs ++ keysB ys := List.flatMap_append
theorem rowsD_keys : ∀ (xs : List Ent) (r : List UInt8), (∀ e ∈ xs, FitE e ∧ Ent64 e) → rowsD xs.length (keysB xs ++ r) = .ok (xs, r)
  | [], r, _ => rfl
  | e :: xs, r, h => by
    have h1 := h e (List.mem_cons_self ..)
    rw [keysB_cons, List.append_assoc, List.length_cons, rowsD, entD_ent h1.1 h1.2]
    simp only
    rw [rowsD_keys xs r fun x hx => h x (List.mem_cons_of_mem _ hx)]
theorem rowsD_inv : ∀ (n : Nat) (bs : List UInt8) (xs : List Ent) (r : List UInt8), rowsD n bs = .ok (xs, r) → xs.length = n ∧ bs = keysB xs ++ r ∧ ∀ e ∈ xs, FitE e ∧ Ent64 e
  | 0, bs, xs, r, h => by
    simp only [rowsD, Except.ok.injEq, Prod.mk.injEq] at h
    obtain ⟨rfl, rfl⟩ := h
    exact ⟨rfl, rfl, by intro e he; cases he⟩
  | n + 1, bs, xs, r, h => by
    rw [rowsD] at h
    generalize h1 : entD bs = d at h
    cases d with
    | error e => cases h
    | ok p =>
      obtain ⟨e, r1⟩ := p
      simp only at h
      generalize h2 : rowsD n r1 = d2 at h
      cases d2 with
      | error e => cases h
      | ok p2 =>
        obtain ⟨es, r2⟩ := p2
        simp only [Except.ok.injEq, Prod.mk.injEq] at h
        obtain ⟨rfl, rfl⟩ := h
        obtain ⟨k1, k2, k3⟩ := rowsD_inv n r1 es r2 h2
        obtain ⟨j1, j2, j3⟩ := entD_inv h1
        refine ⟨by rw [List.length_cons, k1], by rw [keysB_cons, List.append_assoc, ← k2, ← j1], fun x hx => ?_⟩
        rcases List.mem_cons.1 hx with rfl | hx
        · exact ⟨j2, j3⟩
        · exact k3 x hx

theorem inn_parts (l f n : Nat) (X : List UInt8) (hl : l < 256 ^ 8) (hf : f < 256 ^ 8) (hn : n < 256 ^ 4) :
    lb ((bl 8 l ++ bl 8 f ++ bl 4 n ++ X).take 8) = l ∧ lb (((bl 8 l ++ bl 8 f ++ bl 4 n ++ X).drop 8).take 8) = f ∧ lb (((bl 8 l ++ bl 8 f ++ bl 4 n ++ X).drop 16).take 4) = n ∧ (bl 8 l ++ bl 8 f ++ bl 4 n ++ X).drop 20 = X := by
  have k1 := bl_length 8 l
  have k2 := bl_length 8 f
  have k3 := bl_length 4 n
  refine ⟨?_, ?_, ?_, ?_⟩
  · rw [List.append_assoc, List.append_assoc, List.take_append_of_le_length (by omega), List.take_of_length_le (by omega), lb_bl 8 l hl]
  · rw [List.append_assoc, List.append_assoc, List.drop_append_of_le_length (by omega), List.drop_of_length_le (by omega), List.nil_append, List.take_append_of_le_length (by omega), List.take_of_length_le (by omega), lb_bl 8 f hf]
  · rw [List.append_assoc, List.drop_append_of_le_length (by rw [List.length_append]; omega), List.drop_of_length_le (by rw [List.length_append]; omega), List.nil_append, List.take_append_of_le_length (by omega), List.take_of_length_le (by omega), lb_bl 4 n hn]
  · rw [List.drop_append_of_le_length (by rw [List.length_append, List.length_append]; omega), List.drop_of_length_le (by rw [List.length_append, List.length_append]; omega), List.nil_append]
theorem innD_inn {s : StV} (h : OkS s) (h64 : St64 s) : innD (innB s) = .ok s := by
  have hlen := h.len
  obtain ⟨p1, p2, p3, p4⟩ := inn_parts s.lsn s.floor s.keys.length (keysB s.keys) h64.lsn h64.floor (by omega)
  unfold innD innB
  rw [p1, p2, p3, p4, if_neg (by omega)]
  have hr := rowsD_keys s.keys [] fun e he => ⟨FitE.of (h.each e he).2.1 (h.each e he).2.2, h64.ent e he⟩
  rw [List.append_nil] at hr
  rw [hr]
  simp only
  rw [if_neg]
  intro hc
  rcases hc with hc | hc
  · exact hc rfl
  · rw [(okS_iff s).2 h] at hc; cases hc
theorem innD_inv {bs : List UInt8} {s : StV} (hb : 20 ≤ bs.length) (h : innD bs = .ok s) : bs = innB s ∧ okS s = true ∧ St64 s := by
  unfold innD at h
  split at h
  · cases h
  · generalize h1 : rowsD (lb ((bs.drop 16).take 4)) (bs.drop 20) = d at h
    cases d with
    | error e => cases h
    | ok p =>
      obtain ⟨es, r⟩ := p
      simp only at h
      split at h
      · cases h
      · rename_i hc
        obtain ⟨k1, k2, k3⟩ := rowsD_inv _ _ _ _ h1
        simp only [Except.ok.injEq] at h
        have hr : r = [] := Classical.byContradiction fun c => hc (.inl c)
        have hv : okS ⟨lb (bs.take 8), lb ((bs.drop 8).take 8), es⟩ = true := by
          cases q : okS ⟨lb (bs.take 8), lb ((bs.drop 8).take 8), es⟩
          · exact absurd (.inr q) hc
          · rfl
        subst h
        subst hr
        have t1 : (bs.take 8).length = 8 := by rw [List.length_take]; omega
        have t2 : ((bs.drop 8).take 8).length = 8 := by rw [List.length_take, List.length_drop]; omega
        have t3 : ((bs.drop 16).take 4).length = 4 := by rw [List.length_take, List.length_drop]; omega
        have e1 := bl_lb (bs.take 8)
        have e2 := bl_lb ((bs.drop 8).take 8)
        have e3 := bl_lb ((bs.drop 16).take 4)
        have l1 := lb_lt (bs.take 8)
        have l2 := lb_lt ((bs.drop 8).take 8)
        rw [t1] at e1 l1
        rw [t2] at e2 l2
        rw [t3] at e3
        refine ⟨?_, hv, ⟨l1, l2, fun e he => (k3 e he).2⟩⟩
        unfold innB
        simp only
        rw [k1, e1, e2, e3, List.append_nil] at *
        rw [← k2]
        have a1 : bs.drop 16 = (bs.drop 16).take 4 ++ bs.drop 20 := by
          conv => lhs; rw [← List.take_append_drop 4 (bs.drop 16)]
          rw [List.drop_drop]
        have a2 : bs.drop 8 = (bs.drop 8).take 8 ++ bs.drop 16 := by
          conv => lhs; rw [← List.take_append_drop 8 (bs.drop 8)]
          rw [List.drop_drop]
        rw [List.append_assoc, List.append_assoc, ← a1, ← a2, List.take_append_drop]

theorem mrk_length : mrk.length = 4 := rfl
theorem innB_length (s : StV) : (innB s).length = 20 + (keysB s.keys).length := by
  unfold innB
  rw [List.length_append, List.length_append, List.length_append, bl_length, bl_length, bl_length]
theorem imgB_length (s : StV) : (imgB s).length = 28 + (keysB s.keys).length := by
  unfold imgB
  rw [List.length_append, List.length_append, mrk_length, innB_length, bl_length]
  omega
theorem img_parts (s : StV) : (imgB s).take 4 = mrk ∧ (imgB s).take ((imgB s).length - 4) = mrk ++ innB s ∧ (imgB s).drop ((imgB s).length - 4) = bl 4 (sumC (mrk ++ innB s)).toNat := by
  have hl : (imgB s).length - 4 = (mrk ++ innB s).length := by rw [imgB_length, List.length_append, mrk_length, innB_length]; omega
  refine ⟨?_, ?_, ?_⟩
  · unfold imgB
    rw [List.append_assoc, List.take_append_of_le_length (by rw [mrk_length]; omega), List.take_of_length_le (by rw [mrk_length]; omega)]
  · rw [hl]; unfold imgB; rw [List.take_left]
  · rw [hl]; unfold imgB; rw [List.drop_left]
theorem sum_lt (x : W32) : x.toNat < 256 ^ 4 := by have := x.isLt; omega
theorem decI_img {s : StV} (h : okS s = true) (h64 : St64 s) : decI (imgB s) = .ok s := by
  obtain ⟨p1, p2, p3⟩ := img_parts s
  unfold decI
  rw [p1, p2, p3, if_neg (by rw [imgB_length]; omega), if_neg (by simp), lb_bl 4 _ (sum_lt _), if_neg (by simp), List.drop_append_of_le_length (by rw [mrk_length]; omega), List.drop_of_length_le (by rw [mrk_length]; omega), List.nil_append, innD_inn ((okS_iff s).1 h) h64]
theorem decI_inv {b : List UInt8} {s : StV} (h : decI b = .ok s) : b = imgB s ∧ okS s = true ∧ St64 s := by
  unfold decI at h
  split at h
  · cases h
  · rename_i h1
    split at h
    · cases h
    · rename_i h2
      split at h
      · cases h
      · rename_i h3
        have hb : ((b.take (b.length - 4)).drop 4).length = b.length - 8 := by rw [List.length_drop, List.length_take]; omega
        obtain ⟨k1, k2, k3⟩ := innD_inv (by omega) h
        refine ⟨?_, k2, k3⟩
        have h2' := Classical.not_not.1 h2
        have h3' := Classical.not_not.1 h3
        have e1 : b.take (b.length - 4) = mrk ++ innB s := by
          rw [← k1, ← h2']
          conv => lhs; rw [← List.take_append_drop 4 (b.take (b.length - 4))]
          rw [List.take_take, Nat.min_eq_left (by omega)]
        unfold imgB
        rw [← e1, ← h3']
        have e2 := bl_lb (b.drop (b.length - 4))
        rw [List.length_drop, show b.length - (b.length - 4) = 4 by omega] at e2
        rw [e2, List.take_append_drop]
theorem img_inj {s t : StV} (hs : okS s = true) (ht : okS t = true) (s64 : St64 s) (t64 : St64 t) (h : imgB s = imgB t) : s = t := by
  have h1 := decI_img hs s64
  rw [h, decI_img ht t64] at h1
  exact (Except.ok.inj h1).symm

/-- ONE BYTE TURNED. -/
theorem turned_front {s : StV} {i : Nat} {c : UInt8} (hi : i < 4) (hc : (imgB s)[i]? ≠ some c) : decI ((imgB s).set i c) = .error .form := by
  have hl := imgB_length s
  have p1 := (img_parts s).1
  unfold decI
  rw [List.length_set, if_neg (by omega), if_pos]
  intro h
  apply hc
  have e : ((imgB s).set i c)[i]? = some c := by rw [List.getElem?_set_self (by omega)]
  have e1 : (((imgB s).set i c).take 4)[i]? = some c := by rw [List.getElem?_take_of_lt hi, e]
  rw [h, ← p1, List.getElem?_take_of_lt hi] at e1
  exact e1
theorem turned_back {s : StV} {i : Nat} {c : UInt8} (hi : 4 ≤ i) (hi2 : i < (imgB s).length) (hc : (imgB s)[i]? ≠ some c) : decI ((imgB s).set i c) = .error .sum := by
  have hl := imgB_length s
  obtain ⟨p1, p2, p3⟩ := img_parts s
  unfold decI
  rw [List.length_set, if_neg (by omega), List.take_set_of_le hi, p1, if_neg (by simp), if_pos]
  intro h
  have h0 : lb ((imgB s).drop ((imgB s).length - 4)) = (sumC ((imgB s).take ((imgB s).length - 4))).toNat := by
    rw [p2, p3, lb_bl 4 _ (sum_lt _)]
  have hg : (imgB s)[i]? = some ((imgB s)[i]'hi2) := List.getElem?_eq_getElem hi2
  rcases Nat.lt_or_ge i ((imgB s).length - 4) with h1 | h1
  · rw [List.drop_set_of_lt h1, List.take_set, h0] at h
    have h2 := BitVec.eq_of_toNat_eq h
    have h3 := sumC_set [] ((imgB s).take ((imgB s).length - 4)) [] i c (by rw [List.length_take]; omega) (by simpa using h2.symm)
    rw [List.getElem_take] at h3
    exact hc (by rw [hg, h3])
  · rw [List.take_set_of_le h1, ← h0, List.drop_set, if_neg (by omega)] at h
    have h3 := lb_inj (by rw [List.length_set]) h
    have hd : ((imgB s).drop ((imgB s).length - 4)).length = 4 := by rw [List.length_drop]; omega
    have h4 : (((imgB s).drop ((imgB s).length - 4)).set (i - ((imgB s).length - 4)) c)[i - ((imgB s).length - 4)]? = ((imgB s).drop ((imgB s).length - 4))[i - ((imgB s).length - 4)]? := by rw [h3]
    rw [List.getElem?_set_self (by omega), List.getElem?_drop] at h4
    exact hc (by rw [h4]; congr 1; omega)
/-- CUT SHORT. -/
theorem cut_short {s : StV} (hs : okS s = true) (s64 : St64 s) {k : Nat} (hk : k < (imgB s).length) : (∃ e, decI ((imgB s).take k) = .error e) ∧ (k < 28 → decI ((imgB s).take k) = .error .short) := by
  have hlk : ((imgB s).take k).length = k := by rw [List.length_take]; omega
  refine ⟨?_, fun h => by unfold decI; rw [hlk, if_pos h]⟩
  cases hd : decI ((imgB s).take k) with
  | error e => exact ⟨e, rfl⟩
  | ok t =>
    exfalso
    obtain ⟨h1, h2, h3⟩ := decI_inv hd
    have hO := (okS_iff s).1 hs
    have hT := (okS_iff t).1 h2
    have hl := imgB_length s
    have hlt := imgB_length t
    rw [← h1, hlk] at hlt
    -- the beginning of s's bytes is the beginning of t's
    have e0 : (innB t) <+: (innB s ++ bl 4 (sumC (mrk ++ innB s)).toNat) := by
      have a : imgB t <+: imgB s := by rw [← h1]; exact List.take_prefix _ _
      have b : (mrk ++ innB t) <+: imgB s := (List.prefix_append _ _).trans a
      unfold imgB at b
      rw [List.append_assoc] at b
      exact (List.prefix_append_right_inj mrk).1 b
    have e1 : innB t <+: innB s := by
      refine List.prefix_of_prefix_length_le e0 (List.prefix_append _ _) ?_
      rw [innB_length, innB_length]; omega
    obtain ⟨m, hm⟩ := e1
    have hmn : m ≠ [] := by
      rintro rfl
      have := congrArg List.length hm
      rw [List.append_nil, innB_length, innB_length] at this
      omega
    have q1 := inn_parts s.lsn s.floor s.keys.length (keysB s.keys) s64.lsn s64.floor (by have := hO.len; omega)
    have q2 := inn_parts t.lsn t.floor t.keys.length (keysB t.keys ++ m) h3.lsn h3.floor (by have := hT.len; omega)
    have hm' : bl 8 t.lsn ++ bl 8 t.floor ++ bl 4 t.keys.length ++ (keysB t.keys ++ m) = bl 8 s.lsn ++ bl 8 s.floor ++ bl 4 s.keys.length ++ keysB s.keys := by
      rw [← List.append_assoc]; exact hm
    rw [hm'] at q2
    have r1 := q1.2.2.1
    have r2 := q2.2.2.1
    have n1 : s.keys.length = t.keys.length := r1.symm.trans r2
    have x1 : keysB s.keys = keysB t.keys ++ m := q1.2.2.2.symm.trans q2.2.2.2
    have y1 := rowsD_keys s.keys [] fun e he => ⟨FitE.of (hO.each e he).2.1 (hO.each e he).2.2, s64.ent e he⟩
    have y2 := rowsD_keys t.keys m fun e he => ⟨FitE.of (hT.each e he).2.1 (hT.each e he).2.2, h3.ent e he⟩
    rw [List.append_nil, x1, n1, y2] at y1
    simp only [Except.ok.injEq, Prod.mk.injEq] at y1
    exact hmn y1.2
end Go.Proofs.YtooclofdljampaaDoor
