/- table: the law's do and done over a table and the reference's. Own work. -/
import Derived.Test.YtldmiieepikjnaaTbHalf
import Derived.Test.YtldmiieepikjnaaTbArg
import Derived.Test.YtldmiieepikjnaaTbOrd
import Derived.Test.YtldmiieepikjnaaTbExact
set_option linter.unusedVariables false
set_option linter.unusedSimpArgs false
namespace Go.Proofs.Ytldmiieepikjnaa
open Go Go.RowKit

abbrev OpV (q : OpT) : Value := .agg #[.int .i64 q.kind, .int .i64 q.on, .string q.key, .int .i64 q.val]
/-- What an Op makes of a row. -/
def chg (lim : Int) (q : OpT) (xs : List (KV Int)) : List (KV Int) := if q.kind = 1 then putT lim q.key q.val xs else if q.kind = 3 then delT q.key xs else xs
theorem len_chg {lim : Int} {q : OpT} {xs : List (KV Int)} (h : Srt xs) : (chg lim q xs).length ≤ xs.length + 1 := by
  unfold chg
  split
  · exact len_putT h
  · split
    · have := len_delT (k := q.key) h; omega
    · omega
theorem Half.srtY {W : World} {tp up : Option Addr} {lim : Int} {xs ys : List (KV Int)} {S : List Nat} (h : Half W tp up lim xs ys S) : Srt ys := by
  rcases h with ⟨_, _, _, _, rfl, _⟩ | ⟨b, r, v, _, _, _, hr, _⟩
  · exact List.Pairwise.nil
  · exact hr.2.2.1

set_option maxHeartbeats 1000000 in
theorem do_any {W : World} {tp up : Option Addr} {lim : Int} {xs ys : List (KV Int)} {S : List Nat} (h : Half W tp up lim xs ys S) (q : OpT) (hk : KeyOk q.key) (hn : xs.length ≤ 4000000000000) :
    Calls Try.prog 24 #[.pointer tp, OpV q] W fun e W' => e = .returned (.tuple #[]) ∧ Half W' tp up lim (chg lim q xs) ys S ∧ Touch W W' S := by
  obtain ⟨kind, on, key, val⟩ := q
  have bO : Box (W.alloc (.cells #[.int .i64 kind, .int .i64 on, .string key, .int .i64 val] 31)) W.heap.size #[.int .i64 kind, .int .i64 on, .string key, .int .i64 val] := Box.new _ _ _
  have o0 := bO.cell 0
  have o2 := bO.cell 2
  have o3 := bO.cell 3
  have u0 := Up.alloc W (.cells #[.int .i64 kind, .int .i64 on, .string key, .int .i64 val] 31)
  have h1 := h.up u0
  by_cases hk1 : kind = 1
  · subst hk1
    have kP := PutH h1 key val hk hn
    have FIN : Hid (∀ {W' : World}, Half W' tp up lim (putT lim key val xs) ys S → Touch (W.alloc (.cells #[.int .i64 1, .int .i64 on, .string key, .int .i64 val] 31)) W' S → Half W' tp up lim (chg lim ⟨1, on, key, val⟩ xs) ys S ∧ Touch W W' S) := fun a t => ⟨by simpa [chg] using a, (Touch.of_up u0 S).trans t (fun k hk => .inl hk)⟩
    clear h h1 u0 bO
    go_enter Try.func24, Try.ntmps24
    go_wp2_with (go_at_call 12; refine kP.mono ?_; clear kP; rintro e w1 ⟨rfl, a1, a2⟩)
    go_end0
    exact ⟨rfl, FIN.out a1 a2⟩
  · have hb1 : (kind == 1) = false := by simpa using hk1
    by_cases hk3 : kind = 3
    · subst hk3
      have kP := DeleteH h1 key hn
      have FIN : Hid (∀ {W' : World}, Half W' tp up lim (delT key xs) ys S → Touch (W.alloc (.cells #[.int .i64 3, .int .i64 on, .string key, .int .i64 val] 31)) W' S → Half W' tp up lim (chg lim ⟨3, on, key, val⟩ xs) ys S ∧ Touch W W' S) := fun a t => ⟨by simpa [chg] using a, (Touch.of_up u0 S).trans t (fun k hk => .inl hk)⟩
      clear h h1 u0 bO
      go_enter Try.func24, Try.ntmps24
      go_wp2_with (go_at_call 16; refine kP.mono ?_; clear kP; rintro e w1 ⟨rfl, a1, a2⟩)
      go_end0
      exact ⟨rfl, FIN.out a1 a2⟩
    · have hb3 : (kind == 3) = false := by simpa using hk3
      have FIN : Hid (Half (W.alloc (.cells #[.int .i64 kind, .int .i64 on, .string key, .int .i64 val] 31)) tp up lim (chg lim ⟨kind, on, key, val⟩ xs) ys S ∧ Touch W (W.alloc (.cells #[.int .i64 kind, .int .i64 on, .string key, .int .i64 val] 31)) S) := ⟨by simpa [chg, hk1, hk3] using h1, Touch.of_up u0 S⟩
      clear h h1 u0 bO hk1 hk3
      go_enter Try.func24, Try.ntmps24
      go_wp2
      go_end0
      exact ⟨rfl, FIN.out⟩
set_option maxHeartbeats 1000000 in
theorem done_any {W : World} {tp up : Option Addr} {lim : Int} {xs ys : List (KV Int)} {S : List Nat} (h : Half W tp up lim xs ys S) (q : OpT) (hk : KeyOk q.key) (hn : ys.length ≤ 4000000000000) :
    Calls Try.prog 25 #[.pointer up, OpV q] W fun e W' => e = .returned (.tuple #[]) ∧ HDone W tp up lim xs (chg lim q ys) S W' := by
  obtain ⟨kind, on, key, val⟩ := q
  have bO : Box (W.alloc (.cells #[.int .i64 kind, .int .i64 on, .string key, .int .i64 val] 31)) W.heap.size #[.int .i64 kind, .int .i64 on, .string key, .int .i64 val] := Box.new _ _ _
  have o0 := bO.cell 0
  have o2 := bO.cell 2
  have o3 := bO.cell 3
  have u0 := Up.alloc W (.cells #[.int .i64 kind, .int .i64 on, .string key, .int .i64 val] 31)
  have h1 := h.up u0
  have lift : ∀ {zs : List (KV Int)} {W' : World}, HDone (W.alloc (.cells #[.int .i64 kind, .int .i64 on, .string key, .int .i64 val] 31)) tp up lim xs zs S W' → HDone W tp up lim xs zs S W' := fun ⟨S', a, t, n⟩ => ⟨S', a, (Touch.of_up u0 S).trans t (fun k hk => .inl hk), fun k hk => (n k hk).elim .inl (fun e => .inr (Nat.le_trans u0.size e))⟩
  by_cases hk1 : kind = 1
  · subst hk1
    have kP := rPutH h1 key val hk hn
    have FIN : Hid (∀ {W' : World}, HDone (W.alloc (.cells #[.int .i64 1, .int .i64 on, .string key, .int .i64 val] 31)) tp up lim xs (putT lim key val ys) S W' → HDone W tp up lim xs (chg lim ⟨1, on, key, val⟩ ys) S W') := fun a => by have := lift a; simpa [chg] using this
    clear h h1 u0 bO lift
    go_enter Try.func25, Try.ntmps25
    go_wp2_with (go_at_call 13; refine kP.mono ?_; clear kP; rintro e w1 ⟨rfl, a1⟩)
    go_end0
    exact ⟨rfl, FIN.out a1⟩
  · have hb1 : (kind == 1) = false := by simpa using hk1
    by_cases hk3 : kind = 3
    · subst hk3
      have kP := rDeleteH h1 key hk hn
      have FIN : Hid (∀ {W' : World}, HDone (W.alloc (.cells #[.int .i64 3, .int .i64 on, .string key, .int .i64 val] 31)) tp up lim xs (delT key ys) S W' → HDone W tp up lim xs (chg lim ⟨3, on, key, val⟩ ys) S W') := fun a => by have := lift a; simpa [chg] using this
      clear h h1 u0 bO lift
      go_enter Try.func25, Try.ntmps25
      go_wp2_with (go_at_call 17; refine kP.mono ?_; clear kP; rintro e w1 ⟨rfl, a1⟩)
      go_end0
      exact ⟨rfl, FIN.out a1⟩
    · have hb3 : (kind == 3) = false := by simpa using hk3
      have FIN : Hid (HDone W tp up lim xs (chg lim ⟨kind, on, key, val⟩ ys) S (W.alloc (.cells #[.int .i64 kind, .int .i64 on, .string key, .int .i64 val] 31))) := ⟨S, by simpa [chg, hk1, hk3] using h1, Touch.of_up u0 S, fun k hk => .inl hk⟩
      clear h h1 u0 bO hk1 hk3 lift
      go_enter Try.func25, Try.ntmps25
      go_wp2
      go_end0
      exact ⟨rfl, FIN.out⟩

/-! ### What a round of the law's own keeps -/
theorem keeps_touch {W W' : World} {S : List Nat} (t : Touch W W' S) (hS : ∀ k ∈ S, ∃ cs T, W.heap[k]? = some (.cells cs T (0, 0))) : KeepsOthers W W' :=
  ⟨t.size, fun k o ho hc => (t.block k (Array.getElem?_eq_some_iff.1 ho).1 (fun hm => by
    obtain ⟨cs, T, h1⟩ := hS k hm
    rw [ho] at h1; cases h1; cases hc)).trans ho⟩
theorem Half.keeps {W W' : World} {tp up : Option Addr} {lim : Int} {xs ys : List (KV Int)} {S : List Nat} (h : Half W tp up lim xs ys S) (t : Touch W W' S) : KeepsOthers W W' :=
  keeps_touch t (fun k hk => by obtain ⟨cs, T, h1, _⟩ := h.typed k hk; exact ⟨cs, T, h1⟩)
theorem boxed_touch {W W' : World} {S : List Nat} {k : Nat} {T : TypeId} {v : Value} (h : Boxed W k T v) (t : Touch W W' S) (hk : k ∉ S) : Boxed W' k T v :=
  (t.block k (Array.getElem?_eq_some_iff.1 (show W.heap[k]? = _ from h)).1 hk).trans h
theorem Half.notBox {W : World} {tp up : Option Addr} {lim : Int} {xs ys : List (KV Int)} {S : List Nat} (h : Half W tp up lim xs ys S) {k : Nat} {T : TypeId} {v : Value} (hb : Boxed W k T v) (h1 : T ≠ 80) (h2 : T ≠ 82) (h3 : T ≠ 51) : k ∉ S := fun hm => by
  obtain ⟨cs, T', e, hT⟩ := h.typed k hm
  rw [show W.heap[k]? = _ from hb] at e
  simp only [Option.some.injEq, Obj.cells.injEq] at e
  obtain ⟨_, rfl, _⟩ := e
  rcases hT with e | e | e
  · exact h1 e
  · exact h2 e
  · exact h3 e
theorem Half.grown {W W' : World} {tp up : Option Addr} {lim : Int} {xs ys : List (KV Int)} {S : List Nat} (h : Half W tp up lim xs ys S) {row : Option Nat} (g : W.grownBy W' row) (hr : ∀ r, row = some r → ∃ o : Obj, W.heap[r]? = some o ∧ o.isCells = false) : Half W' tp up lim xs ys S := by
  cases row with
  | none => exact h.up ((Touch.of_grown (S := []) g (fun k e => by cases e)).up (by simp))
  | some r =>
    obtain ⟨o, ho, hc⟩ := hr _ rfl
    have t : Touch W W' [r] := Touch.of_grown g (fun k e => by cases e; simp)
    refine h.kept t ⟨fun n cs T hT hn => t.block n (Array.getElem?_eq_some_iff.1 hn).1 (fun hm => ?_)⟩ (fun k hk hm => ?_)
    · simp at hm; subst hm
      rw [ho] at hn; cases hn; cases hc
    · simp at hm; subst hm
      obtain ⟨cs, T, h1, _⟩ := h.typed _ hk
      rw [ho] at h1; cases h1; cases hc
end Go.Proofs.Ytldmiieepikjnaa
