/- table: TableRuns: what its loops keep. Own work. -/
import Derived.Test.YtldmiieepikjnaaTbDo
import Derived.Test.YtldmiieepikjnaaTbYieldF
import Derived.Deep.DeepCutAuto
set_option linter.unusedVariables false
set_option linter.unusedSimpArgs false
namespace Go.Proofs.Ytldmiieepikjnaa
open Go Go.RowKit

/-- The law's own boxes. -/
structure Bx (RB WB TB UB CA CK : Nat) (wv : Value) (tp up : Option Addr) (key : ByteArray) (W : World) : Prop where
  rb : Boxed W RB 4 (.bool false)
  wb : Boxed W WB 22 wv
  tb : Boxed W TB 24 (.pointer tp)
  ub : Boxed W UB 27 (.pointer up)
  ca : Boxed W CA 24 (.pointer tp)
  ck : Boxed W CK 9 (.string key)
theorem Bx.touch {RB WB TB UB CA CK : Nat} {wv : Value} {tp up : Option Addr} {key : ByteArray} {W W' : World} {lim : Int} {xs ys : List (KV Int)} {S : List Nat} (h : Bx RB WB TB UB CA CK wv tp up key W) (hh : Half W tp up lim xs ys S) (t : Touch W W' S) : Bx RB WB TB UB CA CK wv tp up key W' :=
  ⟨boxed_touch h.rb t (hh.notBox h.rb (by decide) (by decide) (by decide)), boxed_touch h.wb t (hh.notBox h.wb (by decide) (by decide) (by decide)), boxed_touch h.tb t (hh.notBox h.tb (by decide) (by decide) (by decide)), boxed_touch h.ub t (hh.notBox h.ub (by decide) (by decide) (by decide)), boxed_touch h.ca t (hh.notBox h.ca (by decide) (by decide) (by decide)), boxed_touch h.ck t (hh.notBox h.ck (by decide) (by decide) (by decide))⟩
theorem Bx.upp {RB WB TB UB CA CK : Nat} {wv : Value} {tp up : Option Addr} {key : ByteArray} {W W' : World} (h : Bx RB WB TB UB CA CK wv tp up key W) (u : Up W W') : Bx RB WB TB UB CA CK wv tp up key W' :=
  have t := Touch.of_up u []
  ⟨boxed_touch h.rb t (by simp), boxed_touch h.wb t (by simp), boxed_touch h.tb t (by simp), boxed_touch h.ub t (by simp), boxed_touch h.ca t (by simp), boxed_touch h.ck t (by simp)⟩
/-- The state of TableRuns. -/
def Rn12 (w : World) (RB WB TB UB CA CK : Nat) (wv : Value) (tp up : Option Addr) (key : ByteArray) (lim : Int) (n : Nat) (W : World) : Prop :=
  ∃ xs S, Half W tp up lim xs xs S ∧ (∀ k ∈ S, w.heap.size ≤ k) ∧ Bx RB WB TB UB CA CK wv tp up key W ∧ Up w W ∧ xs.length ≤ n

theorem rn_next {w wr wa wb : World} {RB WB TB UB CA CK : Nat} {wv : Value} {tp up : Option Addr} {key : ByteArray} {lim : Int} {n : Nat} {xs : List (KV Int)} {S : List Nat} {q : OpT} (hH : Half wr tp up lim xs xs S) (hS : ∀ k ∈ S, w.heap.size ≤ k)
    (hB : Bx RB WB TB UB CA CK wv tp up key wr) (hU : Up w wr) (hn : xs.length ≤ n) (ta : Touch wr wa S) (hd : HDone wa tp up lim (chg lim q xs) (chg lim q xs) S wb) : Rn12 w RB WB TB UB CA CK wv tp up key lim (n + 1) wb := by
  obtain ⟨S', h1, h2, h3⟩ := hd
  have t := ta.trans h2 (fun k hk => .inl hk)
  have := len_chg (lim := lim) (q := q) hH.srt
  refine ⟨_, S', h1, fun k hk => ?_, hB.touch hH t, ((Touch.of_up hU []).trans t (fun k hk => .inr (hS k hk))).up (by simp), by omega⟩
  rcases h3 k hk with e | e
  · exact hS k e
  · have := hU.size; have := ta.size; omega

theorem SlIt.kept2 {w w' : World} {v : Value} {xs : List (KV Int)} {S : List Nat} (h : SlIt w v xs) (t : Touch w w' S) (hk : xs ≠ [] → ∀ k ∈ ob v, k ∉ S) : SlIt w' v xs := by
  by_cases e : xs = []
  · obtain ⟨ao, cap, rfl, hc, hx⟩ := h
    exact ⟨ao, cap, rfl, hc, fun hn => absurd e hn⟩
  · exact h.kept t (hk e)
/-- What the going through keeps. -/
def RgI (w : World) (RB WB TB UB CA CK : Nat) (wv : Value) (tp up : Option Addr) (key : ByteArray) (lim : Int) (WN NB B : Nat) (wants : Value) (ZS : List (KV Int)) (L0 : Nat) (Ds : List Nat) (pre : List (KV Int)) (W : World) : Prop :=
  ∃ xs S, Half W tp up lim xs xs S ∧ (∀ k ∈ S, w.heap.size ≤ k) ∧ Bx RB WB TB UB CA CK wv tp up key W ∧ Up w W ∧ xs.length ≤ L0 + pre.length ∧ Boxed W WN 39 wants ∧ Boxed W NB 3 (.int .i64 (pre.length : Int)) ∧ SlIt W wants ZS ∧ (ZS ≠ [] → ∀ k ∈ ob wants, k ∉ S) ∧ B ≤ W.heap.size ∧ (∀ D ∈ Ds, W.heap[D]? = some (.deferred (some []))) ∧ pre <+: ZS
theorem RgI_own {w : World} {RB WB TB UB CA CK : Nat} {wv : Value} {tp up : Option Addr} {key : ByteArray} {lim : Int} {WN NB B : Nat} {wants : Value} {ZS : List (KV Int)} {L0 : Nat} {Ds : List Nat} (hB : w.heap.size ≤ B) (hw : ZS ≠ [] → ∀ k ∈ ob wants, k < B) (hD : ∀ D ∈ Ds, D < B) : OwnFrom B (RgI w RB WB TB UB CA CK wv tp up key lim WN NB B wants ZS L0 Ds) := by
  rintro pre X Y row ⟨xs, S, h1, h2, h3, h4, h5, h6, h7, h8, h9, h10, h11, h12⟩ hg hr
  have hrc : ∀ r, row = some r → ∃ o : Obj, X.heap[r]? = some o ∧ o.isCells = false := fun r e => (hr r e).2
  have bx : ∀ {k : Nat} {T : TypeId} {v : Value}, Boxed X k T v → Boxed Y k T v := fun h => boxed_row h hg hrc
  have t : Touch X Y (row.toList) := Touch.of_grown hg (fun k e => by subst e; simp)
  have hrB : ∀ r ∈ row.toList, B ≤ r := fun r e => (hr r (by simpa using e)).1
  refine ⟨xs, S, h1.grown hg hrc, h2, ⟨bx h3.rb, bx h3.wb, bx h3.tb, bx h3.ub, bx h3.ca, bx h3.ck⟩, ((Touch.of_up h4 []).trans t (fun k hk => .inr (Nat.le_trans hB (hrB k hk)))).up (by simp), h5, bx h6, bx h7,
    h8.kept2 t (fun hz k hk e => by have := hw hz k hk; have := hrB k e; omega), h9, Nat.le_trans h10 t.size, fun D hD' => (t.block D (Array.getElem?_eq_some_iff.1 (h11 D hD')).1 (fun e => by have := hD D hD'; have := hrB D e; omega)).trans (h11 D hD'), h12⟩
theorem pre_step {ZS pre : List (KV Int)} {x : KV Int} (h : pre <+: ZS) (hl : pre.length < ZS.length) : (ZS[pre.length] = x → pre ++ [x] <+: ZS) ∧ (ZS[pre.length] ≠ x → ¬ (pre ++ [x] <+: ZS)) := by
  obtain ⟨t, rfl⟩ := h
  cases t with
  | nil => simp at hl
  | cons y t =>
    have e : (pre ++ y :: t)[pre.length] = y := by simp
    rw [e]
    refine ⟨fun h => ⟨t, by rw [← h]; simp⟩, fun h ⟨z, hz⟩ => h ?_⟩
    have : (pre ++ [x] ++ z)[pre.length]? = (pre ++ y :: t)[pre.length]? := by rw [hz]
    simpa using this.symm
/-- One more, and nothing is changed. -/
theorem RgI_step {w W : World} {RB WB TB UB CA CK : Nat} {wv : Value} {tp up : Option Addr} {key : ByteArray} {lim : Int} {WN NB B : Nat} {wants : Value} {ZS : List (KV Int)} {L0 : Nat} {Ds : List Nat} {pre : List (KV Int)} {x : KV Int} {W1 : World} {xs xs1 : List (KV Int)} {S S1 : List Nat}
    (h1 : Half W tp up lim xs xs S) (h2 : ∀ k ∈ S, w.heap.size ≤ k) (h3 : Bx RB WB TB UB CA CK wv tp up key W) (h4 : Up w W) (h5 : xs.length ≤ L0 + pre.length) (h6 : Boxed W WN 39 wants) (h7 : Boxed W NB 3 (.int .i64 (pre.length : Int))) (h8 : SlIt W wants ZS) (h9 : ZS ≠ [] → ∀ k ∈ ob wants, k ∉ S) (h10 : B ≤ W.heap.size) (h11 : ∀ D ∈ Ds, W.heap[D]? = some (.deferred (some [])))
    (hN : ZS ≠ [] → NB ∉ ob wants) (hwn : NB ≠ WN) (hwk : ZS ≠ [] → ∀ k ∈ ob wants, k < B) (hNw : w.heap.size ≤ NB) (hbx : NB ≠ RB ∧ NB ≠ WB ∧ NB ≠ TB ∧ NB ≠ UB ∧ NB ≠ CA ∧ NB ≠ CK)
    (H : Half W1 tp up lim xs1 xs1 S1) (t : Touch W W1 S) (hs : ∀ k ∈ S1, k ∈ S ∨ W.heap.size ≤ k) (hl : xs1.length ≤ xs.length + 1) (hp : pre ++ [x] <+: ZS) :
    KeepsOthers W (W1.setCell ⟨NB, 0, none⟩ (.int .i64 ((pre.length + 1 : Nat) : Int))) ∧ StI W (W1.setCell ⟨NB, 0, none⟩ (.int .i64 ((pre.length + 1 : Nat) : Int))) ∧ RgI w RB WB TB UB CA CK wv tp up key lim WN NB B wants ZS L0 Ds (pre ++ [x]) (W1.setCell ⟨NB, 0, none⟩ (.int .i64 ((pre.length + 1 : Nat) : Int))) := by
  have hS1 : ∀ k ∈ S1, w.heap.size ≤ k := fun k hk => (hs k hk).elim (h2 k) (fun e => Nat.le_trans h4.size e)
  have n7 : NB ∉ S := h1.notBox h7 (by decide) (by decide) (by decide)
  have b7 : Boxed W1 NB 3 (.int .i64 (pre.length : Int)) := boxed_touch h7 t n7
  have n71 : NB ∉ S1 := H.notBox b7 (by decide) (by decide) (by decide)
  have tN : Touch W1 (W1.setCell ⟨NB, 0, none⟩ (.int .i64 ((pre.length + 1 : Nat) : Int))) [NB] := (Touch.refl W1 [NB]).setCell (.inl (by simp)) _ _
  have sN : StI W1 (W1.setCell ⟨NB, 0, none⟩ (.int .i64 ((pre.length + 1 : Nat) : Int))) := Still.one tN b7 (by simp) (by simp)
  have bN : Boxed (W1.setCell ⟨NB, 0, none⟩ (.int .i64 ((pre.length + 1 : Nat) : Int))) NB 3 (.int .i64 ((pre.length + 1 : Nat) : Int)) := by
    have := heap_setCell_same W1 NB 0 _ _ (.int .i64 ((pre.length + 1 : Nat) : Int)) b7
    simpa [Boxed] using this
  have kx : ∀ {k : Nat} {T : TypeId} {v : Value}, Boxed W k T v → k ∉ S → NB ≠ k → Boxed (W1.setCell ⟨NB, 0, none⟩ (.int .i64 ((pre.length + 1 : Nat) : Int))) k T v := fun h hk hne => boxed_touch (boxed_touch h t hk) tN (by simpa using fun e => hne e.symm)
  have hn : ∀ {k : Nat} {T : TypeId} {v : Value}, Boxed W k T v → T ≠ 80 → T ≠ 82 → T ≠ 51 → k ∉ S := fun h a b c => h1.notBox h a b c
  refine ⟨(h1.keeps t).trans (keeps_touch tN (fun k hk => by simp at hk; subst hk; exact ⟨_, _, b7⟩)), (h1.still t).trans sN, xs1, S1, H.kept tN sN (fun k hk e => by simp at e; subst e; exact n71 hk), hS1,
    ⟨kx h3.rb (hn h3.rb (by decide) (by decide) (by decide)) hbx.1, kx h3.wb (hn h3.wb (by decide) (by decide) (by decide)) hbx.2.1, kx h3.tb (hn h3.tb (by decide) (by decide) (by decide)) hbx.2.2.1, kx h3.ub (hn h3.ub (by decide) (by decide) (by decide)) hbx.2.2.2.1, kx h3.ca (hn h3.ca (by decide) (by decide) (by decide)) hbx.2.2.2.2.1, kx h3.ck (hn h3.ck (by decide) (by decide) (by decide)) hbx.2.2.2.2.2⟩,
    ((((Touch.of_up h4 []).trans t (fun k hk => .inr (h2 k hk))).trans tN (fun k hk => .inr (by simp at hk; omega)))).up (by simp), by rw [List.length_append, List.length_singleton]; omega, kx h6 (hn h6 (by decide) (by decide) (by decide)) hwn, by rw [List.length_append, List.length_singleton]; exact bN,
    (h8.kept2 t h9).kept2 tN (fun hz k hk e => by simp at e; subst e; exact hN hz hk), fun hz k hk e => ?_, Nat.le_trans h10 (Nat.le_trans t.size tN.size), fun D hD => ?_, hp⟩
  · rcases hs k e with c | c
    · exact h9 hz k hk c
    · have := hwk hz k hk; omega
  · have hd := h11 D hD
    have nD : D ∉ S := fun hm => by
      obtain ⟨cs, T, e, _⟩ := h1.typed D hm
      rw [hd] at e; cases e
    have d1 := (t.block D (Array.getElem?_eq_some_iff.1 hd).1 nD).trans hd
    exact (tN.block D (Array.getElem?_eq_some_iff.1 d1).1 (fun e => by simp at e; subst e; rw [show W1.heap[D]? = _ from b7] at d1; cases d1)).trans d1
abbrev tm12 (tm : Array Value) (x : KV Int) : Array Value := (((tm.setIfInBounds 63 (.string x.1)).setIfInBounds 64 (.int .i64 x.2)).setIfInBounds 14 (.string x.1)).setIfInBounds 15 (.int .i64 x.2)
theorem range12 {tm : Array Value} {df : List Deferred} {assign body : Code} {Q : Exit → Act → World → Prop} {W : World} {gf : Nat} {lb : Array Value} {ZS : List (KV Int)} (hg : (⟨tm, df⟩ : Act).eval (.tmp 62) = .func (.func gf) #[] lb) (eg : ∀ args w, (callFunc gf args).run Try.prog w = .ok (.enter gf args) w)
    (HS : SeqStopsK Fence.wide 4 Try.prog gf lb encKV StI (fun ys => ys = ZS) (fun pre => pre <+: ZS) ZS.length W) (I : List (KV Int) → World → Prop) (hI : OwnFrom W.heap.size I) (h0 : I [] W)
    (hassign : ∀ (l : Nat) (x : KV Int) (X : World) (K : Act → World → Prop), K ⟨tm12 tm x, []⟩ X → assign.wpIn (Fence.wide.inRound l) 3 Try.prog (Exit.then K (fun _ _ _ => False)) { tmps := ((#[63, 64] : Array Tmp).zip (encKV x)).foldl (fun t (p, v) => t.setIfInBounds p v) tm, defers := [] } X)
    (hbody : ∀ (l : Nat) (pre : List (KV Int)) (x : KV Int) (X : World), I pre X → pre.length < ZS.length → body.wpIn (Fence.wide.inRound l) 3 Try.prog (ownPostK StI I (fun _ q _ => ¬ (q <+: ZS)) (pre ++ [x]) X) ⟨tm12 tm x, []⟩ X)
    (hdone : ∀ (D : Nat) (X : World), W.heap.size ≤ D → I ZS X → X.heap[D]? = some (.deferred (some [])) → Q .normal ⟨tm, { target := .collected D, args := #[] } :: df⟩ X) :
    (Code.rangeFunc (.tmp 62) #[63, 64] assign body).wpIn Fence.wide 5 Try.prog Q ⟨tm, df⟩ W :=
  wpIn_rangeFunc_ownF (a := ⟨tm, df⟩) (n := 5) rfl (by omega) hg trivial eg HS St_t (fun X l o o' h1 h2 h3 h4 => St_b (w := W) X l o o' h1 h2 h3 h4) (Below.refl _ _) (fun _ => rfl) I (fun _ q _ => ¬ (q <+: ZS))
    hI (fun c => fun s X Y row hs hg hr => hs) h0 (fun x => ⟨tm12 tm x, []⟩) hassign hbody (fun D ys X hD hy hi hk => by subst hy; exact hdone D X hD hi hk) (fun D c pre X hD hpre hx hk => absurd hpre hx)
theorem cut30 {F : Fence} {n : Nat} {c : Code} {tm : Array Value} {Q : Exit → Act → World → Prop} {W : World} (v0 v1 v2 v3 v4 v5 : Value) (R : World → Prop)
    (h : c.wpIn F n Try.prog (fun e a' W' => e = .normal ∧ a' = ⟨((((((tm.setIfInBounds 83 v0).setIfInBounds 84 v1).setIfInBounds 85 v2).setIfInBounds 86 v3).setIfInBounds 87 v4).setIfInBounds 88 v5), []⟩ ∧ R W') ⟨tm, []⟩ W) (hk : ∀ W', R W' → Q .normal ⟨((((((tm.setIfInBounds 83 v0).setIfInBounds 84 v1).setIfInBounds 85 v2).setIfInBounds 86 v3).setIfInBounds 87 v4).setIfInBounds 88 v5), []⟩ W') : c.wpIn F n Try.prog Q ⟨tm, []⟩ W :=
  wpIn_mono h (fun e a' W' ⟨he, ha, hr⟩ => by subst he; subst ha; exact hk W' hr)
theorem cut31 {F : Fence} {n : Nat} {c : Code} {tm : Array Value} {Q : Exit → Act → World → Prop} {W : World} (v0 v1 v2 v3 v4 v5 : Value) (R : World → Prop)
    (h : c.wpIn F n Try.prog (fun e a' W' => e = .normal ∧ a' = ⟨((((((tm.setIfInBounds 89 v0).setIfInBounds 90 v1).setIfInBounds 91 v2).setIfInBounds 92 v3).setIfInBounds 93 v4).setIfInBounds 94 v5), []⟩ ∧ R W') ⟨tm, []⟩ W) (hk : ∀ W', R W' → Q .normal ⟨((((((tm.setIfInBounds 89 v0).setIfInBounds 90 v1).setIfInBounds 91 v2).setIfInBounds 92 v3).setIfInBounds 93 v4).setIfInBounds 94 v5), []⟩ W') : c.wpIn F n Try.prog Q ⟨tm, []⟩ W :=
  wpIn_mono h (fun e a' W' ⟨he, ha, hr⟩ => by subst he; subst ha; exact hk W' hr)
/-- The end: the result is stored, both marks are taken. -/
theorem end12 {w X : World} {RB D1 D2 : Nat} {v : Value} {fn : Func} {tmps : Array Value} (hU : Up w X) (hb : Boxed X RB 4 v) (h1 : X.heap[D1]? = some (.deferred (some []))) (h2 : X.heap[D2]? = some (.deferred (some []))) (hne : D1 < D2) (hr : w.heap.size ≤ RB) (g1 : w.heap.size ≤ D1)
    (hres : ∀ W : World, W.cell? ⟨RB, 0, none⟩ = some (.bool true) → (results fn tmps).run Try.prog W = .ok (.bool true) W) :
    LeavesInM Fence.wide 5 Try.prog fn tmps (fun e w' => e = .returned (.bool true) ∧ Up w w') [{ target := .collected D2, args := #[] }, { target := .collected D1, args := #[] }] .returning (X.setCell ⟨RB, 0, none⟩ (.bool true)) := by
  have n1 : RB ≠ D1 := fun e => by subst e; rw [show X.heap[RB]? = _ from hb] at h1; cases h1
  have n2 : RB ≠ D2 := fun e => by subst e; rw [show X.heap[RB]? = _ from hb] at h2; cases h2
  have tS : Touch X (X.setCell ⟨RB, 0, none⟩ (.bool true)) [RB] := (Touch.refl X [RB]).setCell (.inl (by simp)) _ _
  have k1 : (X.setCell ⟨RB, 0, none⟩ (.bool true)).heap[D1]? = some (.deferred (some [])) := (tS.block D1 (Array.getElem?_eq_some_iff.1 h1).1 (by simpa using fun e => n1 e.symm)).trans h1
  have k2 : (X.setCell ⟨RB, 0, none⟩ (.bool true)).heap[D2]? = some (.deferred (some [])) := (tS.block D2 (Array.getElem?_eq_some_iff.1 h2).1 (by simpa using fun e => n2 e.symm)).trans h2
  have bR : (X.setCell ⟨RB, 0, none⟩ (.bool true)).heap[RB]? = some (.cells #[.bool true] 4 (0, 0)) := by
    have := heap_setCell_same X RB 0 _ _ (.bool true) hb
    simpa using this
  have uS : Up w (X.setCell ⟨RB, 0, none⟩ (.bool true)) := ((Touch.of_up hU []).trans tS (fun k hk => .inr (by simp at hk; omega))).up (by simp)
  generalize X.setCell ⟨RB, 0, none⟩ (.bool true) = Y at k1 k2 bR uS
  have q2 : Touch Y (Y.putObj D2 (.deferred none)) [D2] := Touch.of_grown (grownBy_putObj' Y D2 _) (fun k e => by simp at e; simp [e])
  have k1' : (Y.putObj D2 (.deferred none)).heap[D1]? = some (.deferred (some [])) := (q2.block D1 (Array.getElem?_eq_some_iff.1 k1).1 (by simp; omega)).trans k1
  have bR2 : (Y.putObj D2 (.deferred none)).heap[RB]? = some (.cells #[.bool true] 4 (0, 0)) := (q2.block RB (Array.getElem?_eq_some_iff.1 bR).1 (by simpa using n2)).trans bR
  have q1 : Touch (Y.putObj D2 (.deferred none)) ((Y.putObj D2 (.deferred none)).putObj D1 (.deferred none)) [D1] := Touch.of_grown (grownBy_putObj' _ D1 _) (fun k e => by simp at e; simp [e])
  have bR3 : Boxed ((Y.putObj D2 (.deferred none)).putObj D1 (.deferred none)) RB 4 (.bool true) := (q1.block RB (Array.getElem?_eq_some_iff.1 bR2).1 (by simpa using n1)).trans bR2
  have uF : Up w ((Y.putObj D2 (.deferred none)).putObj D1 (.deferred none)) := (((Touch.of_up uS []).trans q2 (fun k hk => .inr (by simp at hk; omega))).trans q1 (fun k hk => .inr (by simp at hk; omega))).up (by simp)
  refine ⟨by simp, .inl ⟨D2, _, rfl, run_takeDeferred k2, ⟨by simp, .inl ⟨D1, _, rfl, run_takeDeferred k1', ?_⟩⟩⟩⟩
  exact ⟨.bool true, hres _ bR3.cell, rfl, uF⟩
end Go.Proofs.Ytldmiieepikjnaa
