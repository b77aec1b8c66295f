/- table: TableOrder's walk. Own work. -/
import Derived.Test.YtldmiieepikjnaaTbOrd
set_option linter.unusedVariables false
set_option linter.unusedSimpArgs false
namespace Go.Proofs.Ytldmiieepikjnaa
open Go Go.RowKit

/-- A slice of strings, read. -/
def StrT (w : World) (v : Value) (ks : List ByteArray) : Prop := ∃ ao cap, v = .slice ao ks.length cap ∧ (ks ≠ [] → ∃ b o, ao = some ⟨b, o, none⟩ ∧ ∀ i (h : i < ks.length), w.cell? ⟨b, o + i, none⟩ = some (.string ks[i]))

/-- Two tables apart from one another. -/
def Two (w : World) (a b : Nat) (lim : Int) (X Y : List (KV Int)) (W : World) : Prop := TabI W a lim X ∧ TabI W b lim Y ∧ a ≠ b ∧ w.heap.size ≤ a ∧ w.heap.size ≤ b ∧ Up w W
theorem Two.up {w W W' : World} {a b : Nat} {lim : Int} {X Y : List (KV Int)} (h : Two w a b lim X Y W) (u : Up W W') : Two w a b lim X Y W' := by
  obtain ⟨h1, h2, h3, h4, h5, h6⟩ := h
  exact ⟨h1.up u, h2.up u, h3, h4, h5, h6.trans u⟩
theorem tab_still {W W' : World} {b : Nat} {lim : Int} {X : List (KV Int)} (h : TabI W b lim X) (t : Touch W W' [b]) : StI W W' := by
  obtain ⟨tr, h1, _⟩ := h
  exact Still.one t h1 (by simp) (by simp)
theorem up_touch {w W W' : World} {b : Nat} (u : Up w W) (t : Touch W W' [b]) (hb : w.heap.size ≤ b) : Up w W' :=
  ((Touch.of_up u []).trans t (fun k hk => .inr (by simp at hk; omega))).up (by simp)
theorem PutA {w W : World} {a b : Nat} {lim : Int} {X Y : List (KV Int)} (h : Two w a b lim X Y W) (k : ByteArray) (v : Int) (hk : KeyOk k) (hn : X.length ≤ 4000000000000) :
    Calls Try.prog 12 #[.pointer (some ⟨a, 0, none⟩), .string k, .int .i64 v] W fun e W' => e = .returned (.bool (took lim k X)) ∧ Two w a b lim (putT lim k v X) Y W' := by
  obtain ⟨h1, h2, h3, h4, h5, h6⟩ := h
  exact (PutI_any k v a lim X W h1 hk (by omega)).mono fun e W' ⟨he, ht, t⟩ => ⟨he, ht, h2.kept (t.block b h2.lt (by simpa using fun e => h3 e.symm)) (tab_still h1 t), h3, h4, h5, up_touch h6 t h4⟩
theorem PutB {w W : World} {a b : Nat} {lim : Int} {X Y : List (KV Int)} (h : Two w a b lim X Y W) (k : ByteArray) (v : Int) (hk : KeyOk k) (hn : Y.length ≤ 4000000000000) :
    Calls Try.prog 12 #[.pointer (some ⟨b, 0, none⟩), .string k, .int .i64 v] W fun e W' => e = .returned (.bool (took lim k Y)) ∧ Two w a b lim X (putT lim k v Y) W' := by
  obtain ⟨h1, h2, h3, h4, h5, h6⟩ := h
  exact (PutI_any k v b lim Y W h2 hk (by omega)).mono fun e W' ⟨he, ht, t⟩ => ⟨he, h1.kept (t.block a h1.lt (by simpa using h3)) (tab_still h2 t), ht, h3, h4, h5, up_touch h6 t h5⟩
theorem DelB {w W : World} {a b : Nat} {lim : Int} {X Y : List (KV Int)} (h : Two w a b lim X Y W) (k : ByteArray) (hn : Y.length ≤ 4000000000000) :
    Calls Try.prog 16 #[.pointer (some ⟨b, 0, none⟩), .string k] W fun e W' => e = .returned (.bool (getL k Y).isSome) ∧ Two w a b lim X (delT k Y) W' := by
  obtain ⟨h1, h2, h3, h4, h5, h6⟩ := h
  exact (DeleteI_any k b lim Y W h2 (by omega)).mono fun e W' ⟨he, ht, t⟩ => ⟨he, h1.kept (t.block a h1.lt (by simpa using h3)) (tab_still h2 t), ht, h3, h4, h5, up_touch h6 t h5⟩
theorem GetA {w W : World} {a b : Nat} {lim : Int} {X Y : List (KV Int)} (h : Two w a b lim X Y W) (k : ByteArray) :
    Calls Try.prog 14 #[.pointer (some ⟨a, 0, none⟩), .string k] W fun e W' => e = .returned (.tuple #[.int .i64 ((getL k X).getD 0), .bool (getL k X).isSome]) ∧ W' = W :=
  (GetI_any k a lim X W h.1).mono fun e W' ⟨he, hw⟩ => ⟨by rw [he]; cases getL k X <;> rfl, hw⟩

abbrev ln (k : ByteArray) : Int := (k.size : Int)
def OrdX (ks : List ByteArray) (i : Nat) (X : List (KV Int)) : Prop := Srt X ∧ X.length ≤ i ∧ ∀ k, (k ∈ ks.take i → getL k X = some (ln k)) ∧ (k ∉ ks.take i → getL k X = none)
def OrdY (ks : List ByteArray) (f : ByteArray) (i : Nat) (Y : List (KV Int)) : Prop := Srt Y ∧ cntF f Y i ∧ ∀ k, k ≠ f → (k ∈ ks.drop (ks.length - i) → getL k Y = some (ln k)) ∧ (k ∉ ks.drop (ks.length - i) → getL k Y = none)
theorem cntF.le {α : Type} {f : ByteArray} {Y : List (KV α)} {i : Nat} (h : cntF f Y i) : Y.length ≤ i + 1 := by unfold cntF at h; split at h <;> omega
theorem OrdX.step {ks : List ByteArray} {i : Nat} {X : List (KV Int)} (h : OrdX ks i X) (hi : i < ks.length) : OrdX ks (i + 1) (putT ((ks.length : Int) + 1) ks[i] (ln ks[i]) X) := by
  obtain ⟨h1, h2, h3⟩ := h
  have ht : took ((ks.length : Int) + 1) ks[i] X = true := took_room (by omega)
  have hm : ∀ k, k ∈ ks.take (i + 1) ↔ k ∈ ks.take i ∨ k = ks[i] := fun k => by rw [List.take_succ_eq_append_getElem hi, List.mem_append, List.mem_singleton]
  refine ⟨srt_putT h1 _ _, Nat.le_trans (len_putT h1) (by omega), fun k => ?_⟩
  rw [get_putT _ _ _ _ _ ht, hm]
  by_cases e : k = ks[i]
  · rw [if_pos e]; subst e; exact ⟨fun _ => rfl, fun h => absurd (.inr rfl) h⟩
  · rw [if_neg e]; exact ⟨fun h => (h3 k).1 (h.elim id (fun e' => absurd e' e)), fun h => (h3 k).2 (fun h' => h (.inl h'))⟩
theorem OrdY.put {ks : List ByteArray} {f : ByteArray} {i : Nat} {Y : List (KV Int)} (h : OrdY ks f i Y) (hi : i < ks.length + 1) (v : Int) : OrdY ks f i (putT ((ks.length : Int) + 1) f v Y) ∧ getL f (putT ((ks.length : Int) + 1) f v Y) = some v := by
  obtain ⟨h1, h2, h3⟩ := h
  have ht : took ((ks.length : Int) + 1) f Y = true := by
    by_cases e : (getL f Y).isSome = true
    · exact took_has e
    · have : Y.length ≤ i := by simpa [cntF, e] using h2
      exact took_room (by omega)
  refine ⟨⟨srt_putT h1 _ _, cntF_put_from h1 h2 ht, fun k hk => ?_⟩, ?_⟩
  · rw [get_putT _ _ _ _ _ ht, if_neg hk]; exact h3 k hk
  · rw [get_putT _ _ _ _ _ ht, if_pos rfl]
theorem OrdY.del {ks : List ByteArray} {f : ByteArray} {i : Nat} {Y : List (KV Int)} (h : OrdY ks f i Y) : OrdY ks f i (delT f Y) ∧ getL f (delT f Y) = none := by
  obtain ⟨h1, h2, h3⟩ := h
  refine ⟨⟨srt_delT h1 _, cnt_del_from h1 h2, fun k hk => ?_⟩, ?_⟩
  · rw [get_delT, if_neg hk]; exact h3 k hk
  · rw [get_delT, if_pos rfl]
theorem OrdY.step {ks : List ByteArray} {f : ByteArray} {i : Nat} {Y : List (KV Int)} (h : OrdY ks f i Y) (hi : i < ks.length) : OrdY ks f (i + 1) (putT ((ks.length : Int) + 1) (ks[ks.length - 1 - i]'(by omega)) (ln (ks[ks.length - 1 - i]'(by omega))) Y) := by
  obtain ⟨h1, h2, h3⟩ := h
  have hl := h2.le
  have ht : took ((ks.length : Int) + 1) (ks[ks.length - 1 - i]'(by omega)) Y = true := took_room (by omega)
  have hm : ∀ k, k ∈ ks.drop (ks.length - (i + 1)) ↔ k = (ks[ks.length - 1 - i]'(by omega)) ∨ k ∈ ks.drop (ks.length - i) := fun k => by
    have e1 : ks.length - (i + 1) = ks.length - 1 - i := by omega
    have e2 : ks.length - i = ks.length - 1 - i + 1 := by omega
    rw [e1, e2, List.drop_eq_getElem_cons (show ks.length - 1 - i < ks.length by omega), List.mem_cons]
  refine ⟨srt_putT h1 _ _, cnt_put h1 h2 ht, fun k hk => ?_⟩
  rw [get_putT _ _ _ _ _ ht, hm]
  by_cases e : k = (ks[ks.length - 1 - i]'(by omega))
  · rw [if_pos e]; subst e; exact ⟨fun _ => rfl, fun h => absurd (.inl rfl) h⟩
  · rw [if_neg e]; exact ⟨fun h => (h3 k hk).1 (h.elim (fun e' => absurd e' e) id), fun h => (h3 k hk).2 (fun h' => h (.inr h'))⟩
/-- At the end, when the odd one is set right. -/
theorem ord_end {ks : List ByteArray} {f : ByteArray} {X Y : List (KV Int)} (hX : OrdX ks ks.length X) (hY : OrdY ks f ks.length Y) :
    (getL f X = none → delT f Y = X) ∧ ((getL f X).isSome = true → putT ((ks.length : Int) + 1) f (ln f) Y = X) := by
  have same : ∀ {Z : List (KV Int)}, OrdY ks f ks.length Z → getL f Z = getL f X → Z = X := fun {Z} hZ hf => by
    refine srt_ext hZ.1 hX.1 fun k => ?_
    by_cases e : k = f
    · subst e; exact hf
    · have h1 := hZ.2.2 k e
      have h2 := hX.2.2 k
      rw [Nat.sub_self, List.drop_zero] at h1
      rw [List.take_length] at h2
      by_cases hm : k ∈ ks
      · rw [h1.1 hm, h2.1 hm]
      · rw [h1.2 hm, h2.2 hm]
  refine ⟨fun h => same hY.del.1 (by rw [hY.del.2, h]), fun h => same (hY.put (by omega) _).1 ?_⟩
  rw [(hY.put (by omega) _).2]
  have h2 := hX.2.2 f
  by_cases hm : f ∈ ks.take ks.length
  · rw [h2.1 hm]
  · rw [h2.2 hm] at h; cases h

theorem sl_drop {w : World} {ao : Option Addr} {cap : Nat} {ys : List (KV Int)} (m : Nat) (hm : m ≤ ys.length) (h : SlIt w (.slice ao ys.length cap) ys) :
    ∃ a' c', (∀ u, (Instr.slice 39 (.slice ao ys.length cap) (some (.int .i64 (m : Int))) none none).run Try.prog u = .ok (.slice a' (ys.length - m) c') u) ∧ SlIt w (.slice a' (ys.length - m) c') (ys.drop m) := by
  obtain ⟨i0, hi, hz0, hz1, hz2⟩ := info_parts Try.infoItem
  have hsz : ∀ uu, (sizeOf 51).run Try.prog uu = .ok 2 uu := fun uu => by simp [sizeOf, typeInfo, hi, hz1]
  have hel : Try.prog.elem 39 = 51 := by kernel_rfl
  have hu : Try.prog.underlying 39 = some (.slice (Try.prog.elem 39)) := by rw [hel]; exact Try.underlying39
  obtain ⟨ao', cap', he, hc, hx⟩ := h
  simp only [Value.slice.injEq] at he
  obtain ⟨rfl, _, rfl⟩ := he
  refine ⟨if cap = m then ao else ao.map (·.add (m * 2)), cap - m, fun u => ?_, ?_⟩
  · rw [run_slice_l u 39 ao _ cap hu .i64 _ (by omega) (by omega), hel, hsz]
    simp [Result.andThen, sliced]
  · refine ⟨if cap = m then ao else ao.map (·.add (m * 2)), cap - m, by rw [List.length_drop], by rw [List.length_drop]; omega, fun hne => ?_⟩
    have hlt : m < ys.length := by
      by_cases e : m < ys.length
      · exact e
      · exact absurd (List.drop_eq_nil_iff.2 (by omega)) hne
    have hy : ys ≠ [] := by rintro rfl; simp at hlt
    obtain ⟨g, o, rfl, hcell⟩ := hx hy
    rw [if_neg (by omega)]
    refine ⟨g, o + m * 2, by simp [Addr.add_lit], fun i hi => ?_⟩
    rw [List.length_drop] at hi
    have := hcell (m + i) (by omega)
    rw [List.getElem_drop]
    have e : o + (m + i) * 2 = o + m * 2 + i * 2 := by omega
    rw [e] at this
    exact this
end Go.Proofs.Ytldmiieepikjnaa
