/- table: a table of the program beside the reference's; none is a table of limit 0. Own work. -/
import Derived.Test.YtldmiieepikjnaaTbTold
set_option linter.unusedVariables false
set_option linter.unusedSimpArgs false
namespace Go.Proofs.Ytldmiieepikjnaa
open Go Go.RowKit

/-- The program's table holds xs, the reference's ys; the blocks S are theirs. -/
def Half (W : World) (tp up : Option Addr) (lim : Int) (xs ys : List (KV Int)) (S : List Nat) : Prop :=
  (tp = none ∧ up = none ∧ lim = 0 ∧ xs = [] ∧ ys = [] ∧ S = []) ∨ ∃ b r v, tp = some ⟨b, 0, none⟩ ∧ up = some ⟨r, 0, none⟩ ∧ TabI W b lim xs ∧ RTab W r v lim ys ∧ S = b :: r :: ob v

theorem Half.lt {W : World} {tp up : Option Addr} {lim : Int} {xs ys : List (KV Int)} {S : List Nat} (h : Half W tp up lim xs ys S) : ∀ k ∈ S, k < W.heap.size := by
  rcases h with ⟨_, _, _, _, _, rfl⟩ | ⟨b, r, v, _, _, ht, hr, rfl⟩
  · intro k hk; cases hk
  · intro k hk
    simp only [List.mem_cons] at hk
    rcases hk with rfl | rfl | hk
    · exact ht.lt
    · exact hr.lt
    · rcases hr.2.1.2 with ⟨rfl, _⟩ | ⟨g, cap, cur, rfl, _, hg, _⟩
      · simp [ob, Value.ownBlock] at hk
      · simp [ob, Value.ownBlock] at hk
        subst hk
        exact (Array.getElem?_eq_some_iff.1 hg).1
/-- None of its blocks is of a tree's. -/
theorem Half.typed {W : World} {tp up : Option Addr} {lim : Int} {xs ys : List (KV Int)} {S : List Nat} (h : Half W tp up lim xs ys S) : ∀ k ∈ S, ∃ cs T, W.heap[k]? = some (.cells cs T (0, 0)) ∧ (T = 80 ∨ T = 82 ∨ T = 51) := by
  rcases h with ⟨_, _, _, _, _, rfl⟩ | ⟨b, r, v, _, _, ht, hr, rfl⟩
  · intro k hk; cases hk
  · intro k hk
    simp only [List.mem_cons] at hk
    rcases hk with rfl | rfl | hk
    · obtain ⟨t, h1, _⟩ := ht
      exact ⟨_, _, h1, .inl rfl⟩
    · exact ⟨_, _, hr.1, .inr (.inl rfl)⟩
    · rcases hr.2.1.2 with ⟨rfl, _⟩ | ⟨g, cap, cur, rfl, _, hg, _⟩
      · simp [ob, Value.ownBlock] at hk
      · simp [ob, Value.ownBlock] at hk
        subst hk
        exact ⟨_, _, hg, .inr (.inr rfl)⟩
theorem Half.still {W W' : World} {tp up : Option Addr} {lim : Int} {xs ys : List (KV Int)} {S : List Nat} (h : Half W tp up lim xs ys S) (t : Touch W W' S) : StI W W' :=
  ⟨fun n cs T hT hn => t.block n (Array.getElem?_eq_some_iff.1 hn).1 (fun hm => by
    obtain ⟨cs', T', h1, h2⟩ := h.typed n hm
    rw [hn] at h1
    simp only [Option.some.injEq, Obj.cells.injEq] at h1
    obtain ⟨_, rfl, _⟩ := h1
    rcases hT with rfl | rfl <;> rcases h2 with h2 | h2 | h2 <;> simp at h2)⟩
theorem Half.kept {W W' : World} {tp up : Option Addr} {lim : Int} {xs ys : List (KV Int)} {S T : List Nat} (h : Half W tp up lim xs ys S) (t : Touch W W' T) (s : StI W W') (hd : ∀ k ∈ S, k ∉ T) : Half W' tp up lim xs ys S := by
  rcases h with h | ⟨b, r, v, rfl, rfl, ht, hr, rfl⟩
  · exact .inl h
  · exact .inr ⟨b, r, v, rfl, rfl, ht.kept (t.block b ht.lt (hd b (by simp))) s, hr.kept t (hd r (by simp)) (fun k hk => hd k (by simp [hk])), rfl⟩
theorem Half.up {W W' : World} {tp up : Option Addr} {lim : Int} {xs ys : List (KV Int)} {S : List Nat} (h : Half W tp up lim xs ys S) (u : Up W W') : Half W' tp up lim xs ys S := h.kept (Touch.of_up u []) (Still.of_up u) (by simp)
theorem Half.tabP {W : World} {tp up : Option Addr} {lim : Int} {xs ys : List (KV Int)} {S : List Nat} (h : Half W tp up lim xs ys S) : TabP W tp xs := by
  rcases h with ⟨rfl, _, _, rfl, _, _⟩ | ⟨b, r, v, rfl, _, ht, _, _⟩
  · exact .inl ⟨rfl, rfl⟩
  · exact .inr ⟨b, lim, rfl, ht⟩
theorem Half.srt {W : World} {tp up : Option Addr} {lim : Int} {xs ys : List (KV Int)} {S : List Nat} (h : Half W tp up lim xs ys S) : Srt xs := by
  rcases h with ⟨rfl, _, _, rfl, _, _⟩ | ⟨b, r, v, rfl, _, ht, _, _⟩
  · exact List.Pairwise.nil
  · exact ht.srt
theorem zero_took (k : ByteArray) : took 0 k ([] : List (KV Int)) = false := by simp [took, getL]
theorem zero_put (k : ByteArray) (v : Int) : putT 0 k v ([] : List (KV Int)) = [] := by simp [putT, zero_took]
abbrev delT {α : Type} (k : ByteArray) (xs : List (KV α)) : List (KV α) := if (getL k xs).isSome then delL k xs else xs
theorem tb_ne {W : World} {b r : Nat} {v : Value} {lim l2 : Int} {xs ys : List (KV Int)} (ht : TabI W b lim xs) (hr : RTab W r v l2 ys) : b ∉ r :: ob v := by
  obtain ⟨t, h1, _⟩ := ht
  intro hm
  simp only [List.mem_cons] at hm
  rcases hm with rfl | hm
  · have := hr.1; rw [h1] at this; simp at this
  · rcases hr.2.1.2 with ⟨rfl, _⟩ | ⟨g, cap, cur, rfl, _, hg, _⟩
    · simp [ob, Value.ownBlock] at hm
    · simp [ob, Value.ownBlock] at hm
      subst hm
      rw [h1] at hg; simp at hg
theorem Still.one {W W' : World} {b : Nat} {cs : Array Value} {T : TypeId} (t : Touch W W' [b]) (h : W.heap[b]? = some (.cells cs T (0, 0))) (h1 : T ≠ 125) (h2 : T ≠ 88) : StI W W' :=
  ⟨fun n cs' T' hT hn => t.block n (Array.getElem?_eq_some_iff.1 hn).1 (fun hm => by
    simp only [List.mem_singleton] at hm
    subst hm
    rw [hn] at h
    simp only [Option.some.injEq, Obj.cells.injEq] at h
    obtain ⟨_, rfl, _⟩ := h
    rcases hT with e | e
    · exact h1 e
    · exact h2 e)⟩

/-- The program's change of its table; the reference's stays. -/
theorem PutH {W : World} {tp up : Option Addr} {lim : Int} {xs ys : List (KV Int)} {S : List Nat} (h : Half W tp up lim xs ys S) (k : ByteArray) (v : Int) (hk : KeyOk k) (hn : xs.length ≤ 4000000000000) :
    Calls Try.prog 12 #[.pointer tp, .string k, .int .i64 v] W fun e W' => e = .returned (.bool (took lim k xs)) ∧ Half W' tp up lim (putT lim k v xs) ys S ∧ Touch W W' S := by
  rcases h with ⟨rfl, rfl, rfl, rfl, rfl, rfl⟩ | ⟨b, r, vv, rfl, rfl, ht, hr, rfl⟩
  · refine (PutI_nil k v W).mono fun e W' ⟨he, hw⟩ => ?_
    subst hw
    exact ⟨by rw [zero_took]; exact he, .inl ⟨rfl, rfl, rfl, zero_put k v, rfl, rfl⟩, Touch.refl _ _⟩
  · have hne := tb_ne ht hr
    refine (PutI_any k v b lim xs W ht hk (by omega)).mono fun e W' ⟨he, ht', t⟩ => ⟨he, .inr ⟨b, r, vv, rfl, rfl, ht', ?_, rfl⟩, t.mono (fun k hk => .inl (by simp at hk; simp [hk]))⟩
    exact hr.kept t (fun e => hne (by simp at e; simp [e])) (fun j hj e => hne (by simp at e; rw [← e]; simp [hj]))
theorem DeleteH {W : World} {tp up : Option Addr} {lim : Int} {xs ys : List (KV Int)} {S : List Nat} (h : Half W tp up lim xs ys S) (k : ByteArray) (hn : xs.length ≤ 4000000000000) :
    Calls Try.prog 16 #[.pointer tp, .string k] W fun e W' => e = .returned (.bool (getL k xs).isSome) ∧ Half W' tp up lim (delT k xs) ys S ∧ Touch W W' S := by
  rcases h with ⟨rfl, rfl, rfl, rfl, rfl, rfl⟩ | ⟨b, r, vv, rfl, rfl, ht, hr, rfl⟩
  · refine (DeleteI_nil k W).mono fun e W' ⟨he, hw⟩ => ?_
    subst hw
    exact ⟨he, .inl ⟨rfl, rfl, rfl, rfl, rfl, rfl⟩, Touch.refl _ _⟩
  · have hne := tb_ne ht hr
    refine (DeleteI_any k b lim xs W ht (by omega)).mono fun e W' ⟨he, ht', t⟩ => ⟨he, .inr ⟨b, r, vv, rfl, rfl, ht', ?_, rfl⟩, t.mono (fun k hk => .inl (by simp at hk; simp [hk]))⟩
    exact hr.kept t (fun e => hne (by simp at e; simp [e])) (fun j hj e => hne (by simp at e; rw [← e]; simp [hj]))
theorem GetH {W : World} {tp up : Option Addr} {lim : Int} {xs ys : List (KV Int)} {S : List Nat} (h : Half W tp up lim xs ys S) (k : ByteArray) :
    Calls Try.prog 14 #[.pointer tp, .string k] W fun e W' => e = .returned (.tuple #[.int .i64 ((getL k xs).getD 0), .bool (getL k xs).isSome]) ∧ W' = W := by
  rcases h with ⟨rfl, rfl, rfl, rfl, rfl, rfl⟩ | ⟨b, r, vv, rfl, rfl, ht, hr, rfl⟩
  · exact GetI_nil k W
  · refine (GetI_any k b lim xs W ht).mono fun e W' ⟨he, hw⟩ => ⟨?_, hw⟩
    rw [he]
    cases getL k xs <;> rfl
theorem LenH {W : World} {tp up : Option Addr} {lim : Int} {xs ys : List (KV Int)} {S : List Nat} (h : Half W tp up lim xs ys S) :
    Calls Try.prog 18 #[.pointer tp] W fun e W' => e = .returned (.int .i64 (xs.length : Int)) ∧ W' = W := by
  rcases h with ⟨rfl, rfl, rfl, rfl, rfl, rfl⟩ | ⟨b, r, vv, rfl, rfl, ht, hr, rfl⟩
  · exact LenI_nil W
  · exact LenI_any b lim xs W ht
/-- The reference's change of its table; the program's stays. -/
def HDone (W : World) (tp up : Option Addr) (lim : Int) (xs ys : List (KV Int)) (S : List Nat) (W' : World) : Prop := ∃ S', Half W' tp up lim xs ys S' ∧ Touch W W' S ∧ ∀ k ∈ S', k ∈ S ∨ W.heap.size ≤ k
theorem half_done {W W' : World} {b r : Nat} {v : Value} {lim : Int} {xs ys zs : List (KV Int)} (ht : TabI W b lim xs) (hr : RTab W r v lim ys) (hd : RDone W r v lim zs W') : HDone W (some ⟨b, 0, none⟩) (some ⟨r, 0, none⟩) lim xs zs (b :: r :: ob v) W' := by
  obtain ⟨v', h1, h2, h3⟩ := hd
  have hne := tb_ne ht hr
  have hH : Half W (some ⟨b, 0, none⟩) (some ⟨r, 0, none⟩) lim xs ys (b :: r :: ob v) := .inr ⟨b, r, v, rfl, rfl, ht, hr, rfl⟩
  have t : Touch W W' (b :: r :: ob v) := h2.mono (fun k hk => .inl (by simp only [List.mem_cons] at hk ⊢; exact .inr hk))
  refine ⟨b :: r :: ob v', .inr ⟨b, r, v', rfl, rfl, ht.kept (h2.block b ht.lt hne) (hH.still t), h1, rfl⟩, t, fun k hk => ?_⟩
  simp only [List.mem_cons] at hk ⊢
  rcases hk with rfl | rfl | hk
  · exact .inl (.inl rfl)
  · exact .inl (.inr (.inl rfl))
  · rcases h3 k hk with e | e
    · exact .inl (.inr (.inr e))
    · exact .inr e
theorem rPutH {W : World} {tp up : Option Addr} {lim : Int} {xs ys : List (KV Int)} {S : List Nat} (h : Half W tp up lim xs ys S) (k : ByteArray) (v : Int) (hk : KeyOk k) (hn : ys.length ≤ 4000000000000) :
    Calls Try.prog 13 #[.pointer up, .string k, .int .i64 v] W fun e W' => e = .returned (.bool (took lim k ys)) ∧ HDone W tp up lim xs (putT lim k v ys) S W' := by
  rcases h with ⟨rfl, rfl, rfl, rfl, rfl, rfl⟩ | ⟨b, r, vv, rfl, rfl, ht, hr, rfl⟩
  · refine (rPut_nil k v W).mono fun e W' ⟨he, hw⟩ => ?_
    subst hw
    exact ⟨by rw [zero_took]; exact he, [], .inl ⟨rfl, rfl, rfl, rfl, zero_put k v, rfl⟩, Touch.refl _ _, by simp⟩
  · exact (rPut_any k v r vv lim ys W hr hk hn).mono fun e W' ⟨he, hd⟩ => ⟨he, half_done ht hr hd⟩
theorem rDeleteH {W : World} {tp up : Option Addr} {lim : Int} {xs ys : List (KV Int)} {S : List Nat} (h : Half W tp up lim xs ys S) (k : ByteArray) (hk : KeyOk k) (hn : ys.length ≤ 4000000000000) :
    Calls Try.prog 17 #[.pointer up, .string k] W fun e W' => e = .returned (.bool (getL k ys).isSome) ∧ HDone W tp up lim xs (delT k ys) S W' := by
  rcases h with ⟨rfl, rfl, rfl, rfl, rfl, rfl⟩ | ⟨b, r, vv, rfl, rfl, ht, hr, rfl⟩
  · refine (rDelete_nil k W).mono fun e W' ⟨he, hw⟩ => ?_
    subst hw
    exact ⟨he, [], .inl ⟨rfl, rfl, rfl, rfl, rfl, rfl⟩, Touch.refl _ _, by simp⟩
  · exact (rDelete_any k r vv lim ys W hr hk hn).mono fun e W' ⟨he, hd⟩ => ⟨he, half_done ht hr hd⟩
theorem rGetH {W : World} {tp up : Option Addr} {lim : Int} {xs ys : List (KV Int)} {S : List Nat} (h : Half W tp up lim xs ys S) (k : ByteArray) (hk : KeyOk k) (hn : ys.length ≤ 4000000000000) :
    Calls Try.prog 15 #[.pointer up, .string k] W fun e W' => e = .returned (.tuple #[.int .i64 ((getL k ys).getD 0), .bool (getL k ys).isSome]) ∧ Up W W' := by
  rcases h with ⟨rfl, rfl, rfl, rfl, rfl, rfl⟩ | ⟨b, r, vv, rfl, rfl, ht, hr, rfl⟩
  · exact (rGet_nil k W).mono fun e W' ⟨he, hw⟩ => ⟨he, by subst hw; exact Up.refl _⟩
  · refine (rGet_any k r vv lim ys W hr hk (by omega)).mono fun e W' ⟨he, hw⟩ => ⟨?_, hw⟩
    rw [he]
    cases getL k ys <;> rfl
theorem rLenH {W : World} {tp up : Option Addr} {lim : Int} {xs ys : List (KV Int)} {S : List Nat} (h : Half W tp up lim xs ys S) :
    Calls Try.prog 19 #[.pointer up] W fun e W' => e = .returned (.int .i64 (ys.length : Int)) ∧ W' = W := by
  rcases h with ⟨rfl, rfl, rfl, rfl, rfl, rfl⟩ | ⟨b, r, vv, rfl, rfl, ht, hr, rfl⟩
  · exact rLen_nil W
  · exact rLen_any r vv lim ys W hr
theorem rAllH {W : World} {tp up : Option Addr} {lim : Int} {xs ys : List (KV Int)} {S : List Nat} (h : Half W tp up lim xs ys S) (hn : ys.length ≤ 4000000000000) :
    Calls Try.prog 21 #[.pointer up] W (Row W ys) := by
  rcases h with ⟨rfl, rfl, rfl, rfl, rfl, rfl⟩ | ⟨b, r, vv, rfl, rfl, ht, hr, rfl⟩
  · exact rAll_nil W
  · exact rAll_any r vv lim ys W hr hn
theorem rFromH {W : World} {tp up : Option Addr} {lim : Int} {xs ys : List (KV Int)} {S : List Nat} (h : Half W tp up lim xs ys S) (k : ByteArray) (hk : KeyOk k) (hn : ys.length ≤ 4000000000000) :
    Calls Try.prog 22 #[.pointer up, .string k] W (Row W (fromL k ys)) := by
  rcases h with ⟨rfl, rfl, rfl, rfl, rfl, rfl⟩ | ⟨b, r, vv, rfl, rfl, ht, hr, rfl⟩
  · exact rFrom_nil k W
  · exact rFrom_any k r vv lim ys W hr hk hn
theorem len_putT {lim : Int} {k : ByteArray} {v : Int} {xs : List (KV Int)} (h : Srt xs) : (putT lim k v xs).length ≤ xs.length + 1 := by
  unfold putT
  split
  · rw [length_put h]; split <;> omega
  · omega
theorem len_delT {k : ByteArray} {xs : List (KV Int)} (h : Srt xs) : (delT k xs).length ≤ xs.length := by
  unfold delT
  split
  · rename_i hs
    obtain ⟨v, hv⟩ := Option.isSome_iff_exists.1 hs
    have := length_del h hv
    omega
  · omega
/-- Both tables, new. -/
theorem half_new {W W1 W2 W3 : World} {lim : Int} (h1 : TabI W1 W.heap.size lim []) (u1 : Up W W1) (h2 : RTab W3 W2.heap.size (.slice none 0 0) lim []) (u2 : Up W1 W2) (u3 : Up W2 W3) :
    Half W3 (some ⟨W.heap.size, 0, none⟩) (some ⟨W2.heap.size, 0, none⟩) lim [] [] [W.heap.size, W2.heap.size] := .inr ⟨_, _, _, rfl, rfl, (h1.up u2).up u3, h2, rfl⟩
end Go.Proofs.Ytldmiieepikjnaa
