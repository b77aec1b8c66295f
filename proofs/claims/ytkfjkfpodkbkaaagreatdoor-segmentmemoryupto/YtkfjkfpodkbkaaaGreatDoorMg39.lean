/- Merged: SgHeavy, DkArm. -/
import Derived.Test.YtkfjkfpodkbkaaaGreatDoorMg38
import Derived.Deep.LoopGhost
import Derived.Test.YtkfjkfpodkbkaaaGreatDoorMg24
set_option linter.unusedVariables false
set_option linter.unusedSimpArgs false
namespace Go.Proofs.YtkfjkfpodkbkaaaGreatDoor
open Go Go.RowKit

abbrev Grp := List Rec × Bool
/-- A slice that reads as groups. -/
def Grw (w : World) (v : Value) (gs : List Grp) : Prop :=
  ∃ ao cap, v = .slice ao gs.length cap ∧ gs.length ≤ cap ∧ (gs ≠ [] → ∃ b o, ao = some ⟨b, o, none⟩ ∧ ∀ i (h : i < gs.length), (∃ vi, w.cell? ⟨b, o + i * 2, none⟩ = some vi ∧ Rw w vi gs[i].1) ∧ w.cell? ⟨b, o + i * 2 + 1, none⟩ = some (.bool gs[i].2))
theorem Grw.up {w w' : World} {v : Value} {gs : List Grp} (h : Grw w v gs) (u : Up w w') : Grw w' v gs := by
  obtain ⟨ao, cap, rfl, hc, hx⟩ := h
  refine ⟨ao, cap, rfl, hc, fun hn => ?_⟩
  obtain ⟨b, o, rfl, hl⟩ := hx hn
  refine ⟨b, o, rfl, fun i hi => ?_⟩
  obtain ⟨⟨vi, h1, h2⟩, h3⟩ := hl i hi
  exact ⟨⟨vi, by rw [u.cell (World.block_lt_of_cell? w _ h1)]; exact h1, h2.up u⟩, by rw [u.cell (World.block_lt_of_cell? w _ h3)]; exact h3⟩
theorem Grw.at {w : World} {v : Value} {gs : List Grp} (h : Grw w v gs) (i : Nat) (hi : i < gs.length) : ∃ b o cap vi, v = .slice (some ⟨b, o, none⟩) gs.length cap ∧ w.cell? ⟨b, o + i * 2, none⟩ = some vi ∧ Rw w vi gs[i].1 ∧ w.cell? ⟨b, o + i * 2 + 1, none⟩ = some (.bool gs[i].2) := by
  obtain ⟨ao, cap, rfl, hc, hx⟩ := h
  obtain ⟨b, o, rfl, hl⟩ := hx (by rintro rfl; simp at hi)
  obtain ⟨⟨vi, h1, h2⟩, h3⟩ := hl i hi
  exact ⟨b, o, cap, vi, rfl, h1, h2, h3⟩
theorem Grw.slice {w : World} {v : Value} {gs : List Grp} (h : Grw w v gs) : ∃ ao cap, v = .slice ao gs.length cap := by obtain ⟨ao, cap, e, _⟩ := h; exact ⟨ao, cap, e⟩

/-- What heavy answers. -/
def HvR (gs : List Grp) (r : Bool) : Prop := r = false → ∀ g ∈ gs, g.1.length ≤ 4194304

def HvB (gs : List Grp) (e : Ending) : Prop := ∃ r : Bool, e = .returned (.bool r) ∧ HvR gs r

set_option maxRecDepth 20000 in
set_option maxHeartbeats 1600000 in
theorem heavy_any (v : Value) (gs : List Grp) (w : World) (hv : Grw w v gs) (hl : gs.length ≤ 140737488355328) (hsz : ∀ g ∈ gs, g.1.length ≤ 140737488355328 ∧ ∀ r ∈ g.1, r.length ≤ 140737488355328) :
    Calls Tryz.prog 13 #[v] w fun e w' => HvB gs e ∧ w' = w := by
  obtain ⟨ao, cap, rfl⟩ := hv.slice
  obtain ⟨N, hN⟩ : ∃ N, gs.length = N := ⟨_, rfl⟩
  have HV : Hid (Grw w (.slice ao N cap) gs ∧ gs.length = N ∧ N ≤ 140737488355328 ∧ (∀ g ∈ gs, g.1.length ≤ 140737488355328 ∧ ∀ r ∈ g.1, r.length ≤ 140737488355328)) := ⟨by rw [← hN]; exact hv, hN, by omega, hsz⟩
  rw [hN]
  clear hv hl hsz hN
  go_enter Tryz.func13, Tryz.ntmps13
  go_wp2_with fail
  go_loopg [4, 3] N (fun g p q wr => ∃ i n : Nat, g = N - i ∧ p = .int .i64 (i : Int) ∧ q = .int .i64 (n : Int) ∧ wr = w ∧ Hid (i ≤ N ∧ n ≤ 140737492549690 ∧ (n ≤ 4194304 → ∀ j (h : j < gs.length), j < i → gs[j].1.length ≤ 4194304)))
  case atStart => exact ⟨0, 0, rfl, rfl, rfl, rfl, by omega, by omega, fun _ j _ h => absurd h (Nat.not_lt_zero j)⟩
  case round =>
    obtain ⟨i, n, rfl, rfl, rfl, hw, HI⟩ := hrel
    obtain rfl : w = wr := hw.symm
    by_cases h1 : i < N
    · by_cases h2 : n ≤ 4194304
      · have hi2 : i < gs.length := by have := HV.out.2.1; omega
        obtain ⟨b, o, cap', vi, e, hc, hrw, hc2⟩ := HV.out.1.at i hi2
        obtain ⟨rfl, rfl⟩ : ao = some ⟨b, o, none⟩ ∧ cap = cap' := by simp only [Value.slice.injEq] at e; exact ⟨e.1, e.2.2⟩
        obtain ⟨ai, ci, rfl, hci, hx⟩ := hrw
        obtain ⟨M, hM⟩ : ∃ M, (gs[i]'hi2).1.length = M := ⟨_, rfl⟩
        have hgs := HV.out.2.2.2 _ (List.getElem_mem hi2)
        have HG : Hid ((gs[i]'hi2).1.length = M ∧ M ≤ 140737488355328 ∧ (∀ k, k < M → ∃ b' o', ai = some ⟨b', o', none⟩ ∧ ∃ vk m, w.cell? ⟨b', o' + k, none⟩ = some vk ∧ (∃ ak ck, vk = .slice ak m ck) ∧ m ≤ 140737488355328)) := by
          refine ⟨hM, by rw [← hM]; exact hgs.1, fun k hk => ?_⟩
          have hk2 : k < (gs[i]'hi2).1.length := by omega
          obtain ⟨b', o', rfl, hat⟩ := hx (by intro e; rw [e] at hk2; simp at hk2)
          obtain ⟨vk, q1, q2⟩ := hat k hk2
          obtain ⟨ak, ck, e, _⟩ := q2
          exact ⟨b', o', rfl, vk, _, q1, ⟨ak, ck, e⟩, hgs.2 _ (List.getElem_mem hk2)⟩
        rw [hM] at hc
        have HJ : Hid (i < N ∧ n ≤ 4194304 ∧ ∃ h : i < gs.length, (gs[i]'h).1.length = M) := ⟨h1, h2, hi2, hM⟩
        have e1 : (i : Int) < (N : Int) := by omega
        have e2 : (n : Int) ≤ 4194304 := by omega
        have e3 : (0 : Int) ≤ (n : Int) := by omega
        have e4 : (0 : Int) ≤ (i : Int) := by omega
        have eM : (M : Int) ≤ 140737488355328 := by have := HG.out.2.1; omega
        have eN : (N : Int) ≤ 140737488355328 := by have := HV.out.2.2.1; omega
        clear hM hgs hci hx h1 h2 hc2 e
        go_wp2_with fail
        go_loopg [5, 3] M (fun g p q wr => ∃ k n' : Nat, g = M - k ∧ p = .int .i64 (k : Int) ∧ q = .int .i64 (n' : Int) ∧ wr = w ∧ Hid (k ≤ M ∧ n' ≤ 140737492549690 ∧ (n' ≤ 4194304 → 8 * k ≤ n')))
        case atStart => exact ⟨0, n + 1, rfl, rfl, by go_num, rfl, by omega, by have := HJ.out.2.1; omega, fun _ => by omega⟩
        case round =>
          obtain ⟨k, n', rfl, rfl, rfl, hw2, HL⟩ := hrel
          obtain rfl : w = wr := hw2.symm
          have e5 : (0 : Int) ≤ (n' : Int) := by omega
          have e6 : (n' : Int) ≤ 140737492549690 := by have := HL.out.2.1; omega
          by_cases h3 : k < M
          · have e7 : (k : Int) < (M : Int) := by omega
            by_cases h4 : n' ≤ 4194304
            · obtain ⟨b', o', rfl, vk, m, q1, ⟨ak, ck, rfl⟩, hm⟩ := HG.out.2.2 k h3
              have e8 : (n' : Int) ≤ 4194304 := by omega
              have e9 : (m : Int) ≤ 140737488355328 := by omega
              have HM : Hid (k < M ∧ n' ≤ 4194304 ∧ m ≤ 140737488355328) := ⟨h3, h4, hm⟩
              clear h3 h4 hm
              go_wp2
              go_roundg (M - (k + 1))
              case measure => have := HM.out.1; omega
              case rel =>
                obtain ⟨r1, r2, r3⟩ := HM.out
                obtain ⟨r4, r5, r6⟩ := HL.out
                exact ⟨k + 1, n' + (m + 8), rfl, by go_num, by go_num, rfl, by omega, by omega, fun _ => by have := r6 r2; omega⟩
            · have e8 : ¬ (n' : Int) ≤ 4194304 := by omega
              have HM : Hid (¬ n' ≤ 4194304) := h4
              clear h3 h4
              go_wp2
              go_roundg (N - (i + 1))
              case measure => have := HJ.out.1; omega
              case rel =>
                exact ⟨i + 1, n', rfl, by go_num, rfl, rfl, by have := HJ.out.1; omega, HL.out.2.1, fun q => absurd q HM.out⟩
          · have e7 : ¬ (k : Int) < (M : Int) := by omega
            have HM : Hid (¬ k < M) := h3
            clear h3
            go_wp2
            go_roundg (N - (i + 1))
            case measure => have := HJ.out.1; omega
            case rel =>
              refine ⟨i + 1, n', rfl, by go_num, rfl, rfl, by have := HJ.out.1; omega, HL.out.2.1, fun q j hj hji => ?_⟩
              obtain ⟨r1, r2, r3, r4⟩ := HJ.out
              obtain ⟨r5, r6, r7⟩ := HL.out
              rcases Nat.lt_or_ge j i with z | z
              · exact HI.out.2.2 r2 j hj z
              · obtain rfl : j = i := by omega
                have := r7 q
                have := HM.out
                rw [r4]; omega
      · have e1 : (i : Int) < (N : Int) := by omega
        have e2 : ¬ (n : Int) ≤ 4194304 := by omega
        have e3 : (4194304 : Int) < (n : Int) := by omega
        clear h1 h2
        go_wp2
        go_ret
        exact ⟨⟨true, rfl, (fun e => by cases e)⟩, rfl⟩
    · have e1 : ¬ (i : Int) < (N : Int) := by omega
      by_cases h2 : n ≤ 4194304
      · have e3 : ¬ (4194304 : Int) < (n : Int) := by omega
        have HF : Hid (HvR gs false) := fun _ g hg => by
          obtain ⟨j, hj, rfl⟩ := List.mem_iff_getElem.1 hg
          exact HI.out.2.2 h2 j hj (by have := HV.out.2.1; omega)
        clear h1 h2
        go_wp2
        go_ret
        exact ⟨⟨false, rfl, HF.out⟩, rfl⟩
      · have e3 : (4194304 : Int) < (n : Int) := by omega
        clear h1 h2
        go_wp2
        go_ret
        exact ⟨⟨true, rfl, (fun e => by cases e)⟩, rfl⟩
end Go.Proofs.YtkfjkfpodkbkaaaGreatDoor

set_option linter.unusedVariables false
set_option linter.unusedSimpArgs false
namespace Go.Proofs.YtkfjkfpodkbkaaaGreatDoor
open Go Go.RowKit Go.Maps

theorem Up.trans_grown {a b c : World} {k : Nat} (h : Up a b) (g : b.grownBy c (some k)) (hk : a.heap.size ≤ k) : Up a c :=
  Touch.up ((Touch.of_up h [k]).trans (Touch.of_grown g (S := [k]) (fun j hj => by cases hj; simp)) (fun j hj => .inl hj)) (fun j hj => by simp at hj; subst hj; exact hk)

/-- Something else is armed. -/
theorem DiskV.armed {w w' : World} {base db : Nat} {D : Dsk} {bs bf : Nat} {vch : Value} {mp : Option Nat} {fl : Fls} {b : Nat} {p : Int → Option Int} {c : Int} (h : DiskV w base db D bs bf vch mp fl) (t : Touch w w' [db]) (hb : Box w' db (dcells bs bf vch { D with ahead := D.ops, parts := p, cut := c } (some b))) (hp : PartsIs w' (some b) p) (hbn : w.heap.size ≤ b) (hbase : base ≤ w.heap.size) :
    DiskV w' base db { D with ahead := D.ops, parts := p, cut := c } bs bf vch (some b) fl ∧ (∀ k ∈ dl db bs bf vch (some b) fl, k ∈ dl db bs bf vch mp fl ∨ w.heap.size ≤ k) := by
  have nd := h.nd
  rw [List.nodup_cons] at nd
  have hne : ∀ k ∈ bs :: bf :: (ob vch ++ (mp.toList ++ fl.flatMap (·.2))), k ∉ [db] := fun k hk hm => by
    simp only [List.mem_singleton] at hm
    subst hm
    exact nd.1 hk
  have hnew : ∀ k ∈ dl db bs bf vch (some b) fl, k ∈ dl db bs bf vch mp fl ∨ w.heap.size ≤ k := fun k hk => by
    simp only [dl, Option.toList, List.mem_cons, List.mem_append, List.not_mem_nil, or_false] at hk ⊢
    rcases hk with r | r | r | r | r | r
    · exact .inl (.inl r)
    · exact .inl (.inr (.inl r))
    · exact .inl (.inr (.inr (.inl r)))
    · exact .inl (.inr (.inr (.inr (.inl r))))
    · subst r; exact .inr hbn
    · exact .inl (.inr (.inr (.inr (.inr (.inr r)))))
  refine ⟨⟨hb, ?_, ?_, ?_, hp, h.len, fun i F hi => ?_, ?_, fun k hk => ?_⟩, hnew⟩
  · exact h.see.kept t (hne _ (by simp))
  · obtain ⟨n, q, r⟩ := h.saf; exact ⟨n, q, r.kept t (hne _ (by simp))⟩
  · exact Touch.row h.chg t (fun k hk => hne k (by simp [mem_ob.2 hk]))
  · obtain ⟨p, hp, hf⟩ := h.fil i F hi
    exact ⟨p, hp, hf.kept t (fun k hk => hne k (by
      have : k ∈ fl.flatMap (·.2) := List.mem_flatMap.2 ⟨p, List.mem_of_getElem? hp, hk⟩
      simp [this]))⟩
  · have hA : dl db bs bf vch mp fl = (db :: bs :: bf :: ob vch) ++ mp.toList ++ fl.flatMap (·.2) := by simp [dl]
    have hB : dl db bs bf vch (some b) fl = (db :: bs :: bf :: ob vch) ++ [b] ++ fl.flatMap (·.2) := by simp [dl]
    rw [hB]
    exact nodup_swap (n := w.heap.size) (by rw [← hA]; exact h.nd) (by simp) (fun k hk => by simp at hk; subst hk; exact .inr hbn) (fun k hk => h.lt k (by rw [hA]; exact hk))
  · rcases hnew k hk with r | r
    · exact h.ge k r
    · omega

def onePart (part : Int) : Int → Option Int := fun k => if k = 1 then some part else none
theorem onePart_is {w : World} {b n : Nat} {part : Int} (h : w.ownsMap Tryz.prog 3 (plainElem (H := Unit) Tryz.prog 3) b n ((DataW.map []).put (.int .i64 1) (.lit (.int .i64 part)))) : PartsIs w (some b) (onePart part) := by
  refine ⟨_, n, h, fun k => ?_⟩
  by_cases e : k = 1
  · subst e
    have hk : WideAt.IsKeyLit (Lit.int .i64 1) := True.intro
    rw [atKey_put_same isMap_empty hk, has_put_same isMap_empty hk]
    simp [onePart]
  · have hne : (Lit.int .i64 k) ≠ .int .i64 1 := by simpa using e
    rw [atKey_put_other hne, has_put_other hne]
    simp only [onePart, if_neg e]
    exact ⟨rfl, rfl⟩

set_option maxRecDepth 20000 in
set_option maxHeartbeats 800000 in
theorem partsOf_one (g : Nat) (part : Int) (w : World) (h0 : w.cell? ⟨g, 0, none⟩ = some (.int .i64 1)) (h1 : w.cell? ⟨g, 1, none⟩ = some (.int .i64 part)) (hp : -9223372036854775808 ≤ part ∧ part ≤ 9223372036854775807) :
    Calls Tryz.prog 44 #[.slice (some ⟨g, 0, none⟩) 1 1] w fun e w' => ∃ b, e = .returned (.map (some b)) ∧ PartsIs w' (some b) (onePart part) ∧ w.heap.size ≤ b ∧ Up w w' := by
  have hmm := @run_makeMap Tryz.prog
  obtain ⟨B, hB⟩ : ∃ B, w.heap.size = B := ⟨_, rfl⟩
  obtain ⟨W1, hW1⟩ : ∃ W1, w.alloc (.map #[] 0) = W1 := ⟨_, rfl⟩
  have hown1 : W1.ownsMap Tryz.prog 3 (plainElem (H := Unit) Tryz.prog 3) B 0 (.map []) := by rw [← hW1, ← hB]; exact World.ownsMap_made _ _ _ _
  have u1 : Up w W1 := by rw [← hW1]; exact Up.alloc _ _
  have s1 : W1.heap.size = B + 1 := by rw [← hW1, ← hB]; simp
  obtain ⟨W2, hW2⟩ : ∃ W2, W1.alloc (.cells #[.int .i64 1, .int .i64 part] 140) = W2 := ⟨_, rfl⟩
  have hown2 : W2.ownsMap Tryz.prog 3 (plainElem (H := Unit) Tryz.prog 3) B 0 (.map []) := by rw [← hW2]; exact hown1.alloc _
  have u2 : Up W1 W2 := by rw [← hW2]; exact Up.alloc _ _
  have b2 : Box W2 (B + 1) #[.int .i64 1, .int .i64 part] := by rw [← hW2]; exact Box.newAt s1
  have k0 : W2.cell? ⟨B + 1, 0, none⟩ = some (.int .i64 1) := b2.cell 0
  have k1 : W2.cell? ⟨B + 1, 1, none⟩ = some (.int .i64 part) := b2.cell 1
  have g0 : W1.cell? ⟨g, 0, none⟩ = some (.int .i64 1) := by rw [u1.cell (World.block_lt_of_cell? w _ h0)]; exact h0
  have g1 : W1.cell? ⟨g, 1, none⟩ = some (.int .i64 part) := by rw [u1.cell (World.block_lt_of_cell? w _ h1)]; exact h1
  have HH : Hid (Up w W2 ∧ w.heap.size = B) := ⟨u1.trans u2, hB⟩
  have HP : Hid ((Lit.int .i64 part).wf = true ∧ (Lit.int .i64 1).wf = true) := ⟨WalkArith.wf_i64 hp, by decide⟩
  clear h0 h1 hp hown1 u1 u2 b2
  go_enter Tryz.func44, Tryz.ntmps44
  go_wp2_with fail
  refine wp_loop_rounds 2 ?_
  rw [rounds_succ]
  go_wp2_with (first
    | (at_lookup; refine wpList_lookup_own_ok_int _ rfl _ _ 81 rfl 3 3 .i64 intLaw Tryz.underlying81 Tryz.underlying3 (zeroInt _) B 0 _ rfl hown2 _ _ rfl (keyOf_int_mk Tryz.underlying3 HP.out.2) ?_; intro c hat hwc)
    | (at_mapUpdate; refine wpList_mapUpdate_own _ rfl _ _ _ 81 rfl 3 3 intLaw Tryz.underlying81 (plainElem (H := Unit) Tryz.prog 3) B 0 _ rfl hown2 (by unfold maxLen; omega) _ _ _ rfl rfl (keyOf_int_mk Tryz.underlying3 HP.out.2) _ [] (plainElem_int Tryz.underlying3 HP.out.1) ?_; intro w3 hown3 hg3; have H3 : Hid (w3.ownsMap Tryz.prog 3 (plainElem (H := Unit) Tryz.prog 3) B 1 ((DataW.map []).put (.int .i64 1) (.lit (.int .i64 part))) ∧ W2.grownBy w3 (some B)) := ⟨hown3, hg3⟩; clear hown3 hg3))
  rw [rounds_succ]
  go_wp2
  go_ret
  obtain ⟨r1, r2⟩ := H3.out
  exact ⟨B, rfl, onePart_is r1, by rw [HH.out.2]; exact Nat.le_refl _, (HH.out.1).trans_grown r2 (by have := HH.out.2; omega)⟩

set_option maxRecDepth 20000 in
set_option maxHeartbeats 800000 in
theorem Arm_one (base db : Nat) (D : Dsk) (L : List Nat) (g : Nat) (part : Int) (w : World) (h : DiskAt w base db D L) (hd : D.down = false) (hgL : g ∉ L) (h0 : w.cell? ⟨g, 0, none⟩ = some (.int .i64 1)) (h1 : w.cell? ⟨g, 1, none⟩ = some (.int .i64 part)) (hp : -9223372036854775808 ≤ part ∧ part ≤ 9223372036854775807) (hbase : base ≤ w.heap.size) :
    Calls Tryz.prog 16 #[.pointer (some ⟨db, 0, none⟩), .slice (some ⟨g, 0, none⟩) 1 1, .int .i64 0] w fun e w' => e = .returned (.tuple #[]) ∧ OpDone w base db { D with ahead := D.ops, parts := onePart part, cut := 0 } L w' := by
  obtain ⟨bs, bf, vch, mp, fl, hV, rfl⟩ := h
  have hr := ready_up db w ((hV.box.cell 5).trans (by rw [← hd]; rfl))
  have ud := Up.drew w
  have hpa := partsOf_one g part w.drew h0 h1 hp
  have HH : Hid (DiskV w base db D bs bf vch mp fl ∧ base ≤ w.heap.size) := ⟨hV, hbase⟩
  have hs : w.drew.cell? ⟨db, 4, none⟩ = some (.int .i64 (D.ops : Int)) := hV.box.cell 4
  have hdl := hV.box.lt
  clear hV hd hgL h0 h1 hp hbase
  go_enter Tryz.func16, Tryz.ntmps16
  go_wp2_with fail
  refine hr.mono ?_
  rintro e w1 ⟨rfl, hw⟩
  obtain rfl : w = w1 := hw.symm
  clear hr
  go_wp2_with fail
  refine wp_region_held_drew (S := fun u => u.cell? ⟨db, 4, none⟩ = some (.int .i64 (D.ops : Int))) (by kernel_rfl) hs (fun hs0 => ?_)
  refine take_to (some 9) (i := 0) (v := .pointer (some ⟨db, 0, none⟩)) rfl rfl (by kernel_rfl) (by kernel_rfl) (by kernel_rfl) (fun _ _ _ h => h) (Or.inl ⟨by kernel_rfl, by intro u hSu; go_simp⟩) hs ?_
  simp only [Act.put, List.setIfInBounds_toArray, List.set_cons_zero, List.set_cons_succ]
  refine take_to (some 10) (i := 1) (v := .pointer (some ⟨db, 0, none⟩)) rfl rfl (by kernel_rfl) (by kernel_rfl) (by kernel_rfl) (fun _ _ _ h => h) (Or.inl ⟨by kernel_rfl, by intro u hSu; go_simp⟩) hs ?_
  simp only [Act.put, List.setIfInBounds_toArray, List.set_cons_zero, List.set_cons_succ]
  refine take_to (some 11) (i := 2) (v := .pointer (some ⟨db, 0, none⟩)) rfl rfl (by kernel_rfl) (by kernel_rfl) (by kernel_rfl) (fun _ _ _ h => h) (Or.inl ⟨by kernel_rfl, by intro u hSu; go_simp⟩) hs ?_
  simp only [Act.put, List.setIfInBounds_toArray, List.set_cons_zero, List.set_cons_succ]
  refine take_to (some 12) (i := 3) (v := .pointer (some ⟨db, 4, none⟩)) rfl rfl (by kernel_rfl) (by kernel_rfl) (by kernel_rfl) (fun _ _ _ h => h) (Or.inl ⟨by kernel_rfl, by intro u hSu; go_simp⟩) hs ?_
  simp only [Act.put, List.setIfInBounds_toArray, List.set_cons_zero, List.set_cons_succ]
  refine take_to (some 13) (i := 4) (v := .int .i64 (D.ops : Int)) rfl rfl (by kernel_rfl) (by kernel_rfl) (by kernel_rfl) (fun _ _ _ h => h) (Or.inl ⟨by kernel_rfl, by intro u hSu; have q0 := hSu; go_simp⟩) hs ?_
  simp only [Act.put, List.setIfInBounds_toArray, List.set_cons_zero, List.set_cons_succ]
  refine take_to (some 14) (i := 5) (v := .slice (some ⟨g, 0, none⟩) 1 1) rfl rfl (by kernel_rfl) (by kernel_rfl) (by kernel_rfl) (fun _ _ _ h => h) (Or.inl ⟨by kernel_rfl, by intro u hSu; go_simp⟩) hs ?_
  simp only [Act.put, List.setIfInBounds_toArray, List.set_cons_zero, List.set_cons_succ]
  refine take_to (some 16) (i := 7) (v := .int .i64 0) rfl rfl (by kernel_rfl) (by kernel_rfl) (by kernel_rfl) (fun _ _ _ h => h) (Or.inl ⟨by kernel_rfl, by intro u hSu; go_simp⟩) hs ?_
  simp only [Act.put, List.setIfInBounds_toArray, List.set_cons_zero, List.set_cons_succ]
  refine wpAnyH_ready (rs := [6]) (by kernel_rfl) (by simp) ?_
  refine AllReadyH.cons rfl (fun K hK => ?_) AllReadyH.nil
  go_simp
  refine hpa.mono ?_
  rintro e w2 ⟨b, rfl, hp2, hb2, u2⟩
  have hs2 : w2.cell? ⟨db, 4, none⟩ = some (.int .i64 (D.ops : Int)) := by rw [u2.cell (World.block_lt_of_cell? _ _ hs)]; exact hs
  refine hK.out _ _ hs2 (fun _ => ?_)
  clear hK K
  refine wpAnyH_ready (rs := [8]) (by kernel_rfl) (by simp) ?_
  refine AllReadyH.cons rfl (fun K hK => ?_) AllReadyH.nil
  go_simp
  refine hK.out _ _ hs2 (fun _ => ?_)
  clear hK K
  refine take_to (some 18) (i := 9) (v := .pointer (some ⟨db, 0, none⟩)) rfl rfl (by kernel_rfl) (by kernel_rfl) (by kernel_rfl) (fun _ _ _ h => h) (Or.inl ⟨by kernel_rfl, by intro u hSu; go_simp⟩) hs2 ?_
  simp only [Act.put, List.setIfInBounds_toArray, List.set_cons_zero, List.set_cons_succ]
  refine take_to (some 19) (i := 10) (v := .pointer (some ⟨db, 6, none⟩)) rfl rfl (by kernel_rfl) (by kernel_rfl) (by kernel_rfl) (fun _ _ _ h => h) (Or.inl ⟨by kernel_rfl, by intro u hSu; go_simp⟩) hs2 ?_
  simp only [Act.put, List.setIfInBounds_toArray, List.set_cons_zero, List.set_cons_succ]
  refine wpAnyH_ready (rs := [11]) (by kernel_rfl) (by simp) ?_
  refine AllReadyH.cons rfl (fun K hK => ?_) AllReadyH.nil
  have bx := (HH.out.1.box.up (ud.trans u2))
  have f6 := bx.frozen 6
  have f7 := bx.frozen 7
  have f8 := bx.frozen 8
  have k6 : w2.cell? ⟨db, 6, none⟩ = some (.int .i64 (D.ahead : Int)) := bx.cell 6
  have k7 : w2.cell? ⟨db, 7, none⟩ = some (.map mp) := bx.cell 7
  have k8 : w2.cell? ⟨db, 8, none⟩ = some (.int .i64 D.cut) := bx.cell 8
  go_simp
  have bn := ((bx.set 6 (.int .i64 (D.ops : Int))).set 7 (.map (some b))).set 8 (.int .i64 0)
  refine hK.out _ _ (bn.cell 4) (fun _ => ?_)
  clear hK K
  refine wpAnyH_done (by kernel_rfl) ?_ _
  go_wp2
  go_end0
  obtain ⟨hV, hbase⟩ := HH.out
  have uw : Up w w2 := ud.trans u2
  have t3 : Touch w2 (((w2.setCell ⟨db, 6, none⟩ (.int .i64 (D.ops : Int))).setCell ⟨db, 7, none⟩ (.map (some b))).setCell ⟨db, 8, none⟩ (.int .i64 0)) [db] := (((Touch.refl _ _).setCell (.inl (by simp)) _ _).setCell (.inl (by simp)) _ _).setCell (.inl (by simp)) _ _
  have tt := (Touch.of_up uw [db]).trans t3 (fun k hk => .inl hk)
  have hbn : w.heap.size ≤ b := Nat.le_trans ud.size hb2
  have e : dcells bs bf vch { D with ahead := D.ops, parts := onePart part, cut := 0 } (some b) = (((dcells bs bf vch D mp).setIfInBounds 6 (.int .i64 (D.ops : Int))).setIfInBounds 7 (.map (some b))).setIfInBounds 8 (.int .i64 0) := by simp [dcells]
  obtain ⟨q1, q2⟩ := hV.armed (p := onePart part) (c := 0) tt (by rw [e]; exact bn) (hp2.kept t3 (fun k hk => by cases hk; simp; omega)) hbn hbase
  exact ⟨rfl, _, ⟨_, _, _, _, _, q1, rfl⟩, q2, tt.mono (fun k hk => .inl (by simp at hk; simp [hk]))⟩
end Go.Proofs.YtkfjkfpodkbkaaaGreatDoor
