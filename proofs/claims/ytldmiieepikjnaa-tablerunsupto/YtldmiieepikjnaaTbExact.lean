/- table: TableExact's walk: its state. Own work. -/
import Derived.Test.YtldmiieepikjnaaTbHalf
import Derived.Test.YtldmiieepikjnaaTbArg
import Derived.Deep.DeepCutAuto
set_option linter.unusedVariables false
set_option linter.unusedSimpArgs false
namespace Go.Proofs.Ytldmiieepikjnaa
open Go Go.RowKit

abbrev Pp (tp : Option Addr) : Value := .pointer tp
/-- The law's two tables and none, in two arrays A and B; at most n keys in each. -/
def Ex (w : World) (A B : Nat) (t1 t2 u1 u2 : Option Addr) (l1 l2 : Int) (n : Nat) (W : World) : Prop :=
  ∃ X Y S T, Half W t1 u1 l1 X X S ∧ Half W t2 u2 l2 Y Y T ∧ (∀ k ∈ S, k ∉ T) ∧ A ∉ S ∧ A ∉ T ∧ B ∉ S ∧ B ∉ T ∧ (∀ k ∈ S, w.heap.size ≤ k) ∧ (∀ k ∈ T, w.heap.size ≤ k) ∧
    Box W A #[Pp t1, Pp t2, Pp none] ∧ Box W B #[Pp u1, Pp u2, Pp none] ∧ Up w W ∧ X.length ≤ n ∧ Y.length ≤ n
theorem Ex.up {w W W' : World} {A B : Nat} {t1 t2 u1 u2 : Option Addr} {l1 l2 : Int} {n : Nat} (h : Ex w A B t1 t2 u1 u2 l1 l2 n W) (u : Up W W') : Ex w A B t1 t2 u1 u2 l1 l2 n W' := by
  obtain ⟨X, Y, S, T, h1, h2, d1, d2, d3, d4, d5, d6, d7, b1, b2, u0, n1, n2⟩ := h
  exact ⟨X, Y, S, T, h1.up u, h2.up u, d1, d2, d3, d4, d5, d6, d7, b1.up u, b2.up u, u0.trans u, n1, n2⟩
theorem Ex.more {w W : World} {A B : Nat} {t1 t2 u1 u2 : Option Addr} {l1 l2 : Int} {n m : Nat} (h : Ex w A B t1 t2 u1 u2 l1 l2 n W) (hm : n ≤ m) : Ex w A B t1 t2 u1 u2 l1 l2 m W := by
  obtain ⟨X, Y, S, T, h1, h2, d1, d2, d3, d4, d5, d6, d7, b1, b2, u0, n1, n2⟩ := h
  exact ⟨X, Y, S, T, h1, h2, d1, d2, d3, d4, d5, d6, d7, b1, b2, u0, by omega, by omega⟩
/-- One of the three places, and what is owed to the others. -/
def Pick (w : World) (A B : Nat) (t1 t2 u1 u2 : Option Addr) (l1 l2 : Int) (n : Nat) (W : World) (tp up : Option Addr) (lim : Int) (Z : List (KV Int)) (S : List Nat) : Prop :=
  Half W tp up lim Z Z S ∧ Z.length ≤ n ∧ (∀ k ∈ S, w.heap.size ≤ k) ∧
    ∀ W' Z' S', Half W' tp up lim Z' Z' S' → Touch W W' S → (∀ k ∈ S', k ∈ S ∨ W.heap.size ≤ k) → Z'.length ≤ n + 1 → Ex w A B t1 t2 u1 u2 l1 l2 (n + 1) W'
theorem Ex.pick {w W : World} {A B : Nat} {t1 t2 u1 u2 : Option Addr} {l1 l2 : Int} {n : Nat} (h : Ex w A B t1 t2 u1 u2 l1 l2 n W) (p : Nat) (hp : p < 3) :
    ∃ tp up lim Z S, W.cell? ⟨A, p, none⟩ = some (Pp tp) ∧ W.cell? ⟨B, p, none⟩ = some (Pp up) ∧ Pick w A B t1 t2 u1 u2 l1 l2 n W tp up lim Z S := by
  obtain ⟨X, Y, S, T, h1, h2, d1, d2, d3, d4, d5, d6, d7, b1, b2, u0, n1, n2⟩ := h
  have hAl := b1.lt
  have hBl := b2.lt
  match p, hp with
  | 0, _ =>
    refine ⟨t1, u1, l1, X, S, b1.cell 0, b2.cell 0, h1, n1, d6, fun W' Z' S' h t hs hl => ⟨Z', Y, S', T, h, h2.kept t (h1.still t) (fun k hk e => d1 k e hk), ?_, ?_, d3, ?_, d5, ?_, d7, Touch.box b1 t d2, Touch.box b2 t d4, ?_, hl, by omega⟩⟩
    · intro k hk e
      rcases hs k hk with c | c
      · exact d1 k c e
      · have := h2.lt k e; omega
    · intro e; rcases hs _ e with c | c
      · exact d2 c
      · omega
    · intro e; rcases hs _ e with c | c
      · exact d4 c
      · omega
    · intro k hk; rcases hs k hk with c | c
      · exact d6 k c
      · have := u0.size; omega
    · exact ((Touch.of_up u0 []).trans t (fun k hk => .inr (d6 k hk))).up (by simp)
  | 1, _ =>
    refine ⟨t2, u2, l2, Y, T, b1.cell 1, b2.cell 1, h2, n2, d7, fun W' Z' S' h t hs hl => ⟨X, Z', S, S', h1.kept t (h2.still t) (fun k hk e => d1 k hk e), h, ?_, d2, ?_, d4, ?_, d6, ?_, Touch.box b1 t d3, Touch.box b2 t d5, ?_, by omega, hl⟩⟩
    · intro k hk e
      rcases hs k e with c | c
      · exact d1 k hk c
      · have := h1.lt k hk; omega
    · intro e; rcases hs _ e with c | c
      · exact d3 c
      · omega
    · intro e; rcases hs _ e with c | c
      · exact d5 c
      · omega
    · intro k hk; rcases hs k hk with c | c
      · exact d7 k c
      · have := u0.size; omega
    · exact ((Touch.of_up u0 []).trans t (fun k hk => .inr (d7 k hk))).up (by simp)
  | 2, _ =>
    refine ⟨none, none, 0, [], [], b1.cell 2, b2.cell 2, .inl ⟨rfl, rfl, rfl, rfl, rfl, rfl⟩, Nat.zero_le _, by simp, fun W' Z' S' h t hs hl => ?_⟩
    have u : Up W W' := t.up (by simp)
    exact ⟨X, Y, S, T, h1.up u, h2.up u, d1, d2, d3, d4, d5, d6, d7, b1.up u, b2.up u, u0.trans u, by omega, by omega⟩
/-- Behind calls that change nothing of what was there. -/
theorem Pick.same {w W W' : World} {A B : Nat} {t1 t2 u1 u2 : Option Addr} {l1 l2 : Int} {n : Nat} {tp up : Option Addr} {lim : Int} {Z : List (KV Int)} {S : List Nat} (h : Pick w A B t1 t2 u1 u2 l1 l2 n W tp up lim Z S) (u : Up W W') : Ex w A B t1 t2 u1 u2 l1 l2 (n + 1) W' :=
  h.2.2.2 W' Z S (h.1.up u) (Touch.of_up u _) (fun k hk => .inl hk) (by have := h.2.1; omega)
theorem Pick.done {w W W1 W' : World} {A B : Nat} {t1 t2 u1 u2 : Option Addr} {l1 l2 : Int} {n : Nat} {tp up : Option Addr} {lim : Int} {Z Z' : List (KV Int)} {S : List Nat} (h : Pick w A B t1 t2 u1 u2 l1 l2 n W tp up lim Z S) (t : Touch W W1 S) (d : HDone W1 tp up lim Z' Z' S W') (hl : Z'.length ≤ n + 1) : Ex w A B t1 t2 u1 u2 l1 l2 (n + 1) W' := by
  obtain ⟨S', h1, h2, h3⟩ := d
  exact h.2.2.2 W' Z' S' h1 (t.trans h2 (fun k hk => .inl hk)) (fun k hk => (h3 k hk).elim .inl (fun e => .inr (by have := t.size; omega))) hl
theorem Pick.up {w W W1 : World} {A B : Nat} {t1 t2 u1 u2 : Option Addr} {l1 l2 : Int} {n : Nat} {tp up : Option Addr} {lim : Int} {Z : List (KV Int)} {S : List Nat} (h : Pick w A B t1 t2 u1 u2 l1 l2 n W tp up lim Z S) (u : Up W W1) : Pick w A B t1 t2 u1 u2 l1 l2 n W1 tp up lim Z S :=
  ⟨h.1.up u, h.2.1, h.2.2.1, fun W' Z' S' h1 h2 h3 h4 => h.2.2.2 W' Z' S' h1 ((Touch.of_up u S).trans h2 (fun k hk => .inl hk)) (fun k hk => (h3 k hk).elim .inl (fun e => .inr (Nat.le_trans u.size e))) h4⟩
theorem touch_done {W1 wa wb : World} {tp up : Option Addr} {lim : Int} {Z Z' : List (KV Int)} {S : List Nat} (t : Touch W1 wa S) (d : HDone wa tp up lim Z Z' S wb) : Touch W1 wb S := by
  obtain ⟨S', _, h2, _⟩ := d
  exact t.trans h2 (fun k hk => .inl hk)
end Go.Proofs.Ytldmiieepikjnaa
