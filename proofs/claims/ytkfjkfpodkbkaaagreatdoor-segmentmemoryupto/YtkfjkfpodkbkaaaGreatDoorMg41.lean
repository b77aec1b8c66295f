/- Merged: SgHeavy2, SgPush, BkCutN. -/
import Derived.Test.YtkfjkfpodkbkaaaGreatDoorMg39
import Derived.Test.YtkfjkfpodkbkaaaGreatDoorMg35
import Derived.Laws.OwnMore
import Derived.Laws.MakeOwn
import Derived.OwnWalk
import Derived.Test.YtkfjkfpodkbkaaaGreatDoorMg28
set_option linter.unusedVariables false
set_option linter.unusedSimpArgs false
namespace Go.Proofs.YtkfjkfpodkbkaaaGreatDoor
open Go Go.RowKit

/-- The weight of records, of groups. -/
def wtR (Rs : List Rec) : Nat := (Rs.map fun r => r.length + 8).sum
def wtG (gs : List Grp) : Nat := (gs.map fun g => wtR g.1 + 1).sum
theorem wtR_take (L : List Rec) (k : Nat) (h : k < L.length) : wtR (L.take (k + 1)) = wtR (L.take k) + (L[k].length + 8) := by
  unfold wtR
  rw [List.take_succ_eq_append_getElem h, List.map_append, List.sum_append]
  simp
theorem wtG_take (gs : List Grp) (k : Nat) (h : k < gs.length) : wtG (gs.take (k + 1)) = wtG (gs.take k) + (wtR gs[k].1 + 1) := by
  unfold wtG
  rw [List.take_succ_eq_append_getElem h, List.map_append, List.sum_append]
  simp
theorem wtG_le (gs : List Grp) (k : Nat) : wtG (gs.take k) ≤ wtG gs := by
  have := congrArg wtG (List.take_append_drop k gs)
  unfold wtG at this ⊢
  rw [List.map_append, List.sum_append] at this
  omega
theorem wtR_le (L : List Rec) : 8 * L.length ≤ wtR L ∧ ∀ r ∈ L, r.length + 8 ≤ wtR L := by
  induction L with
  | nil => simp [wtR]
  | cons r L ih =>
    have e : wtR (r :: L) = (r.length + 8) + wtR L := by simp [wtR]
    rw [e, List.length_cons]
    refine ⟨by omega, fun x hx => ?_⟩
    rcases List.mem_cons.1 hx with rfl | hx
    · omega
    · have := ih.2 x hx; omega
theorem wtG_mem {gs : List Grp} {g : Grp} (h : g ∈ gs) : wtR g.1 + 1 ≤ wtG gs := by
  obtain ⟨i, hi, rfl⟩ := List.getElem_of_mem h
  have h1 := wtG_take gs i hi
  have h2 := wtG_le gs (i + 1)
  omega

/-- What heavy answers. -/
def HwR (gs : List Grp) (r : Bool) : Prop := r = false → wtG gs ≤ 4194304

def HwB (gs : List Grp) (e : Ending) : Prop := ∃ r : Bool, e = .returned (.bool r) ∧ HwR gs r

set_option maxRecDepth 20000 in
set_option maxHeartbeats 1600000 in
theorem heavy2_any (v : Value) (gs : List Grp) (w : World) (hv : Grw w v gs) (hl : gs.length ≤ 140737488355328) (hsz : ∀ g ∈ gs, g.1.length ≤ 140737488355328 ∧ ∀ r ∈ g.1, r.length ≤ 140737488355328) :
    Calls Tryz.prog 13 #[v] w fun e w' => HwB gs e ∧ w' = w := by
  obtain ⟨ao, cap, rfl⟩ := hv.slice
  obtain ⟨N, hN⟩ : ∃ N, gs.length = N := ⟨_, rfl⟩
  have HV : Hid (Grw w (.slice ao N cap) gs ∧ gs.length = N ∧ N ≤ 140737488355328 ∧ (∀ g ∈ gs, g.1.length ≤ 140737488355328 ∧ ∀ r ∈ g.1, r.length ≤ 140737488355328)) := ⟨by rw [← hN]; exact hv, hN, by omega, hsz⟩
  rw [hN]
  clear hv hl hsz hN
  go_enter Tryz.func13, Tryz.ntmps13
  go_wp2_with fail
  go_loopg [4, 3] N (fun g p q wr => ∃ i n : Nat, g = N - i ∧ p = .int .i64 (i : Int) ∧ q = .int .i64 (n : Int) ∧ wr = w ∧ Hid (i ≤ N ∧ n ≤ 140737492549690 ∧ (n ≤ 4194304 → wtG (gs.take i) = n)))
  case atStart => exact ⟨0, 0, rfl, rfl, rfl, rfl, by omega, by omega, fun _ => by simp [wtG]⟩
  case round =>
    obtain ⟨i, n, rfl, rfl, rfl, hw, HI⟩ := hrel
    obtain rfl : w = wr := hw.symm
    by_cases h1 : i < N
    · by_cases h2 : n ≤ 4194304
      · have hi2 : i < gs.length := by have := HV.out.2.1; omega
        obtain ⟨b, o, cap', vi, e, hc, hrw, hc2⟩ := HV.out.1.at i hi2
        obtain ⟨rfl, rfl⟩ : ao = some ⟨b, o, none⟩ ∧ cap = cap' := by simp only [Value.slice.injEq] at e; exact ⟨e.1, e.2.2⟩
        obtain ⟨ai, ci, rfl, hci, hx⟩ := hrw
        obtain ⟨M, hM⟩ : ∃ M, (gs[i]'hi2).1.length = M := ⟨_, rfl⟩
        have hgs := HV.out.2.2.2 _ (List.getElem_mem hi2)
        have HG : Hid ((gs[i]'hi2).1.length = M ∧ M ≤ 140737488355328 ∧ (∀ k, k < M → ∃ b' o', ai = some ⟨b', o', none⟩ ∧ ∃ vk m, w.cell? ⟨b', o' + k, none⟩ = some vk ∧ (∃ ak ck, vk = .slice ak m ck) ∧ m ≤ 140737488355328 ∧ wtR ((gs[i]'hi2).1.take (k + 1)) = wtR ((gs[i]'hi2).1.take k) + (m + 8))) := by
          refine ⟨hM, by rw [← hM]; exact hgs.1, fun k hk => ?_⟩
          have hk2 : k < (gs[i]'hi2).1.length := by omega
          obtain ⟨b', o', rfl, hat⟩ := hx (by intro e; rw [e] at hk2; simp at hk2)
          obtain ⟨vk, q1, q2⟩ := hat k hk2
          obtain ⟨ak, ck, e, _⟩ := q2
          exact ⟨b', o', rfl, vk, _, q1, ⟨ak, ck, e⟩, hgs.2 _ (List.getElem_mem hk2), wtR_take _ k hk2⟩
        rw [hM] at hc
        have HJ : Hid (i < N ∧ n ≤ 4194304 ∧ (gs[i]'hi2).1.length = M ∧ wtG (gs.take (i + 1)) = wtG (gs.take i) + (wtR (gs[i]'hi2).1 + 1) ∧ wtG (gs.take i) = n) := ⟨h1, h2, hM, wtG_take gs i hi2, HI.out.2.2 h2⟩
        obtain ⟨RS, hRS⟩ : ∃ RS, (gs[i]'hi2).1 = RS := ⟨_, rfl⟩
        rw [hRS] at HG HJ
        have e1 : (i : Int) < (N : Int) := by omega
        have e2 : (n : Int) ≤ 4194304 := by omega
        have e3 : (0 : Int) ≤ (n : Int) := by omega
        have e4 : (0 : Int) ≤ (i : Int) := by omega
        have eM : (M : Int) ≤ 140737488355328 := by have := HG.out.2.1; omega
        have eN : (N : Int) ≤ 140737488355328 := by have := HV.out.2.2.1; omega
        clear hM hgs hci hx h1 h2 hc2 e
        go_wp2_with fail
        go_loopg [5, 3] M (fun g p q wr => ∃ k n' : Nat, g = M - k ∧ p = .int .i64 (k : Int) ∧ q = .int .i64 (n' : Int) ∧ wr = w ∧ Hid (k ≤ M ∧ n' ≤ 140737492549690 ∧ (n' ≤ 4194304 → n' = n + 1 + wtR (RS.take k))))
        case atStart => exact ⟨0, n + 1, rfl, rfl, by go_num, rfl, by omega, by have := HJ.out.2.1; omega, fun _ => by simp [wtR]⟩
        case round =>
          obtain ⟨k, n', rfl, rfl, rfl, hw2, HL⟩ := hrel
          obtain rfl : w = wr := hw2.symm
          have e5 : (0 : Int) ≤ (n' : Int) := by omega
          have e6 : (n' : Int) ≤ 140737492549690 := by have := HL.out.2.1; omega
          by_cases h3 : k < M
          · have e7 : (k : Int) < (M : Int) := by omega
            by_cases h4 : n' ≤ 4194304
            · obtain ⟨b', o', rfl, vk, m, q1, ⟨ak, ck, rfl⟩, hm, hst⟩ := HG.out.2.2 k h3
              have e8 : (n' : Int) ≤ 4194304 := by omega
              have e9 : (m : Int) ≤ 140737488355328 := by omega
              have HM : Hid (k < M ∧ n' ≤ 4194304 ∧ m ≤ 140737488355328 ∧ wtR (RS.take (k + 1)) = wtR (RS.take k) + (m + 8)) := ⟨h3, h4, hm, hst⟩
              clear h3 h4 hm hst
              go_wp2
              go_roundg (M - (k + 1))
              case measure => have := HM.out.1; omega
              case rel =>
                obtain ⟨r1, r2, r3, r7⟩ := HM.out
                obtain ⟨r4, r5, r6⟩ := HL.out
                exact ⟨k + 1, n' + (m + 8), rfl, by go_num, by go_num, rfl, by omega, by omega, fun _ => by have := r6 r2; omega⟩
            · have e8 : ¬ (n' : Int) ≤ 4194304 := by omega
              have HM : Hid (¬ n' ≤ 4194304) := h4
              clear h3 h4
              go_wp2
              go_roundg (N - (i + 1))
              case measure => have := HJ.out.1; omega
              case rel =>
                exact ⟨i + 1, n', rfl, by go_num, rfl, rfl, by have := HJ.out.1; omega, HL.out.2.1, fun q => absurd q HM.out⟩
          · have e7 : ¬ (k : Int) < (M : Int) := by omega
            have HM : Hid (¬ k < M) := h3
            clear h3
            go_wp2
            go_roundg (N - (i + 1))
            case measure => have := HJ.out.1; omega
            case rel =>
              refine ⟨i + 1, n', rfl, by go_num, rfl, rfl, by have := HJ.out.1; omega, HL.out.2.1, fun q => ?_⟩
              obtain ⟨r1, r2, r3, r4, r8⟩ := HJ.out
              obtain ⟨r5, r6, r7⟩ := HL.out
              have r9 := r7 q
              have r10 := HM.out
              have r11 : k = M := by omega
              rw [r11, ← r3, List.take_length] at r9
              omega
      · have e1 : (i : Int) < (N : Int) := by omega
        have e2 : ¬ (n : Int) ≤ 4194304 := by omega
        have e3 : (4194304 : Int) < (n : Int) := by omega
        clear h1 h2
        go_wp2
        go_ret
        exact ⟨⟨true, rfl, (fun e => by cases e)⟩, rfl⟩
    · have e1 : ¬ (i : Int) < (N : Int) := by omega
      by_cases h2 : n ≤ 4194304
      · have e3 : ¬ (4194304 : Int) < (n : Int) := by omega
        have HF : Hid (HwR gs false) := fun _ => by
          have q1 := HI.out.2.2 h2
          have q2 := HI.out.1
          have q3 := HV.out.2.1
          rw [List.take_of_length_le (by omega)] at q1
          omega
        clear h1 h2
        go_wp2
        go_ret
        exact ⟨⟨false, rfl, HF.out⟩, rfl⟩
      · have e3 : (4194304 : Int) < (n : Int) := by omega
        clear h1 h2
        go_wp2
        go_ret
        exact ⟨⟨true, rfl, (fun e => by cases e)⟩, rfl⟩
end Go.Proofs.YtkfjkfpodkbkaaaGreatDoor

set_option linter.unusedVariables false
set_option linter.unusedSimpArgs false
namespace Go.Proofs.YtkfjkfpodkbkaaaGreatDoor
open Go Go.RowKit

/-- append(s, x...) where s is an own row of slices: the row lies in its old block or in a new one; no other old block is turned. -/
theorem wpList_appVW {ops : Array Oper} {rest : List Oper} {o : Oper} {a : Act} {Q : Exit → Act → World → Prop} (w : World) (hgd : o.guard = none) (s x : Operand)
    (ho : o.op = .call { callee := .builtin .append, args := #[s, x], argTypes := #[44, 44] }) (base : Nat) (v : Value) (bs us : List Value) (hs : a.eval s = v) (ad : Addr) (c : Nat)
    (hx : a.eval x = .slice (some ad) us.length c) (how : OwnV w base v bs) (hnews : ∀ j u, us[j]? = some u → w.cell? (ad.add j) = some u) (h1c : ∀ u ∈ us, u.oneCell' = true) (hbase : base ≤ w.heap.size) (hl : bs.length + us.length ≤ 1000000000) (hne : us ≠ [])
    (hK : ∀ v' w', OwnV w' base v' (bs ++ us) → w.grownBy w' v.ownBlock → (∀ k, v'.ownBlock = some k → v.ownBlock = some k ∨ w.heap.size ≤ k) → wpList Tryz.prog ops Q rest (a.put o.dst v') w') :
    wpList Tryz.prog ops Q (o :: rest) a w := by
  obtain ⟨i0, hi, hz0, hz1, hz2⟩ := info_parts Tryz.infoSl
  by_cases hroom : ∃ g cap, v = .slice (some ⟨g, 0, none⟩) bs.length cap ∧ bs.length + us.length ≤ cap
  · obtain ⟨g, cap, rfl, hr⟩ := hroom
    refine wpList_append_fits _ hgd s x 44 ho base 60 i0 1 Tryz.underlying44 hi hz1 g bs.length cap bs hs how ad us.length c us hx (by simp) hnews h1c hr ?_
    intro w' h1 h2
    exact hK _ w' (by simpa [OwnV] using h1) h2 (fun k hk => .inl hk)
  · refine wpList_plain hgd fun K hKK => ?_
    have hzc : (Value.slice none 0 0).cells.size = 1 := rfl
    rcases how.2 with ⟨rfl, h0⟩ | ⟨g, cap, cur, rfl, hbg, hg, hnc, hcm, hcs, htake⟩
    · obtain rfl : bs = [] := List.eq_nil_of_length_eq_zero h0
      have hr := run_append_nil (P := Tryz.prog) w 44 o.type 60 i0 (.slice none 0 0) Tryz.underlying44 hi hz0 ad us.length c us (by rw [hz1]; simp) hnews
      have hu1 := List.length_pos_iff.2 hne
      have hl0 : us.length ≤ 1000000000 := by simpa using hl
      have hr := hr (by omega) (by omega) (by rw [hz2]; omega)
      have hge := grownCap_ge w us.length 0 60
      have hcm2 := grownCap_le_maxLen w us.length 0 60 (by unfold maxLen; omega)
      unfold Oper.wp execOp
      simp only [ho, resolve, invoke, builtin, Sem.run_bind, Sem.run_pure, Result.andThen_ok, List.map_toArray, List.map_cons, List.map_nil, hs, hx, hr]
      generalize grownCap w us.length 0 60 = gc at hge hcm2 ⊢
      have hown : ∀ b0, b0 ≤ w.heap.size → OwnV (w.drew.alloc (.cells (us.toArray ++ Builtin.zeroCells (Value.slice none 0 0).cells (gc - us.length)) 60)) b0 (.slice (some ⟨w.heap.size, 0, none⟩) us.length gc) ([] ++ us) := by
        intro b0 hb0
        refine ⟨by simp, .inr ⟨_, gc, _, rfl, hb0, heap_alloc_new _ _, by simpa using hge, hcm2, ?_, by simp⟩⟩
        simp only [Array.size_append, List.size_toArray, size_zeroCells, hzc]; omega
      refine hKK _ _ (hK _ _ (hown base hbase) ?_ (fun k hk => .inr (by cases hk; exact Nat.le_refl _)))
      exact (fun u => ⟨u.os, u.tape, u.output, u.size, fun k hk _ => u.block k hk⟩ : ∀ {w w' : World} {r : Option Nat}, Up w w' → w.grownBy w' r) ((Up.drew w).trans (Up.alloc _ _))
    · rw [Nat.mul_one] at hcs htake
      have hfull : cap < bs.length + us.length := by
        apply Classical.byContradiction
        intro h
        exact hroom ⟨g, cap, rfl, by omega⟩
      have holds : ∀ j u, bs[j]? = some u → w.cell? ((⟨g, 0, none⟩ : Addr).add j) = some u := how.cells (g := g) rfl
      have hr := run_append_grow (P := Tryz.prog) w 44 o.type 60 i0 (.slice none 0 0) Tryz.underlying44 hi hz0 ⟨g, 0, none⟩ bs.length cap bs (by rw [hz1]; simp) holds ad us.length c us (by rw [hz1]; simp) hnews (by omega) (by omega)
        (by rw [hz2]; exact growslice_fits (by omega) (by omega))
      have hge := grownCap_ge w (bs.length + us.length) cap 60
      have hcm2 := grownCap_le_maxLen w (bs.length + us.length) cap 60 (by unfold maxLen; omega)
      unfold Oper.wp execOp
      simp only [ho, resolve, invoke, builtin, Sem.run_bind, Sem.run_pure, Result.andThen_ok, List.map_toArray, List.map_cons, List.map_nil, hs, hx, hr]
      generalize grownCap w (bs.length + us.length) cap 60 = gc at hge hcm2 ⊢
      have hown : ∀ b0, b0 ≤ w.heap.size → OwnV (w.drew.alloc (.cells (bs.toArray ++ us.toArray ++ Builtin.zeroCells (Value.slice none 0 0).cells (gc - (bs.length + us.length))) 60)) b0 (.slice (some ⟨w.heap.size, 0, none⟩) (bs.length + us.length) gc) (bs ++ us) := by
        intro b0 hb0
        refine ⟨by simp, .inr ⟨_, gc, _, by simp, hb0, heap_alloc_new _ _, by simpa using hge, hcm2, ?_, ?_⟩⟩
        · simp only [Array.size_append, List.size_toArray, size_zeroCells, hzc, List.length_append]; omega
        · simp only [Array.toList_append, List.append_assoc]
          rw [← List.append_assoc, Nat.mul_one]
          exact List.take_left
      refine hKK _ _ (hK _ _ (hown base hbase) ?_ (fun k hk => .inr (by cases hk; exact Nat.le_refl _)))
      exact (fun u => ⟨u.os, u.tape, u.output, u.size, fun k hk _ => u.block k hk⟩ : ∀ {w w' : World} {r : Option Nat}, Up w w' → w.grownBy w' r) ((Up.drew w).trans (Up.alloc _ _))
end Go.Proofs.YtkfjkfpodkbkaaaGreatDoor

set_option linter.unusedVariables false
namespace Go.Proofs.YtkfjkfpodkbkaaaGreatDoor
open Go

/-- Each of the first groups may be encoded where it stands; each of the others too. -/
theorem Fits.take : ∀ {first : Nat} {gs : List (List Rec)} (k : Nat), Fits first gs → Fits first (gs.take k)
  | _, _, 0, _ => trivial
  | _, [], k + 1, _ => trivial
  | first, g :: gs, k + 1, h => ⟨h.1, Fits.take k h.2⟩
theorem Fits.get : ∀ {first : Nat} {gs : List (List Rec)} (k : Nat) (hk : k < gs.length), Fits first gs → FitB (first + cntB (gs.take k)) gs[k]
  | _, [], k, hk, _ => by simp at hk
  | first, g :: gs, 0, _, h => by
    have : cntB ((g :: gs).take 0) = 0 := rfl
    rw [this]; exact h.1
  | first, g :: gs, k + 1, hk, h => by
    have e : cntB ((g :: gs).take (k + 1)) = g.length + cntB (gs.take k) := by simp [cntB]
    have := Fits.get (first := first + g.length) k (by simpa using hk) h.2
    rw [e, ← Nat.add_assoc]
    exact this
theorem pkB_append : ∀ (first : Nat) (a b : List (List Rec)), pkB first (a ++ b) = pkB first a ++ pkB (first + cntB a) b
  | first, [], b => by simp [pkB, cntB]
  | first, g :: a, b => by
    have e : cntB (g :: a) = g.length + cntB a := by simp [cntB]
    rw [List.cons_append, pkB, pkB, pkB_append, e, List.append_assoc, Nat.add_assoc]
theorem pkB_take {first : Nat} {gs : List (List Rec)} (h : Fits first gs) (k : Nat) (hk : k ≤ gs.length) : (pkB first gs).take (512 * k) = pkB first (gs.take k) ∧ (pkB first gs).drop (512 * k) = pkB (first + cntB (gs.take k)) (gs.drop k) := by
  have hl : (pkB first (gs.take k)).length = 512 * k := by rw [pkB_length _ _ (h.take k), List.length_take]; omega
  have e : pkB first gs = pkB first (gs.take k) ++ pkB (first + cntB (gs.take k)) (gs.drop k) := by rw [← pkB_append, List.take_append_drop]
  constructor
  · rw [e, List.take_left' hl]
  · rw [e, List.drop_left' hl]
/-- Block k of what is packed. -/
theorem pkB_block {first : Nat} {gs : List (List Rec)} (h : Fits first gs) (k : Nat) (hk : k < gs.length) : ((pkB first gs).drop (512 * k)).take 512 = blkB (first + cntB (gs.take k)) gs[k] := by
  rw [(pkB_take h k (by omega)).2, List.drop_eq_getElem_cons hk, pkB]
  exact List.take_left' (blkB_length (Fits.get k hk h).room)
theorem flat_take {gs : List (List Rec)} {L : List Rec} (h : gs.flatten = L) (k : Nat) : (gs.take k).flatten = L.take (cntB (gs.take k)) ∧ cntB (gs.take k) ≤ L.length := by
  have e : gs.flatten = (gs.take k).flatten ++ (gs.drop k).flatten := by rw [← List.flatten_append, List.take_append_drop]
  constructor
  · rw [← h, e]
    exact (List.take_left' rfl).symm
  · rw [← h, e, List.length_append]; exact Nat.le_add_right _ _
theorem cnt_next (gs : List (List Rec)) (k : Nat) (hk : k < gs.length) : cntB (gs.take (k + 1)) = cntB (gs.take k) + gs[k].length := by
  unfold cntB
  rw [List.take_succ_eq_append_getElem hk, List.flatten_append, List.length_append]
  simp
theorem full_get : ∀ {gs : List (List Rec)} (k : Nat) (hk : k + 1 < gs.length), FullB gs → ∃ r g', gs[k + 1] = r :: g' ∧ 494 < (bodyB (gs[k]'(by omega))).length + 2 + r.length
  | [], k, hk, _ => by simp at hk
  | [_], k, hk, _ => by simp at hk
  | g :: (r :: g') :: gs, 0, _, h => ⟨r, g', rfl, h.1⟩
  | g :: (r :: g') :: gs, k + 1, hk, h => full_get (gs := (r :: g') :: gs) k (by simpa using hk) h.2
/-- Behind block k the next record, if there is one, doesn't fit into it. -/
theorem cuts_next {gs : List (List Rec)} {L : List Rec} (hfl : gs.flatten = L) (hf : FullB gs) (hne : ∀ g ∈ gs, g ≠ []) (k : Nat) (hk : k < gs.length) (hlt : cntB (gs.take (k + 1)) < L.length) :
    494 < (bodyB gs[k]).length + 2 + (L[cntB (gs.take (k + 1))]'hlt).length := by
  have hk1 : k + 1 < gs.length := by
    apply Classical.byContradiction
    intro h
    have e : gs.take (k + 1) = gs := List.take_of_length_le (by omega)
    rw [e] at hlt
    unfold cntB at hlt
    rw [hfl] at hlt
    exact Nat.lt_irrefl _ hlt
  obtain ⟨r, g', e1, h1⟩ := full_get k hk1 hf
  have e : L = (gs.take (k + 1)).flatten ++ (r :: g' ++ (gs.drop (k + 2)).flatten) := by
    have e0 : gs.flatten = (gs.take (k + 1)).flatten ++ (gs.drop (k + 1)).flatten := by rw [← List.flatten_append, List.take_append_drop]
    rw [← hfl, e0, List.drop_eq_getElem_cons hk1, List.flatten_cons, e1]
  have e2 : L[cntB (gs.take (k + 1))]'hlt = r := by
    have h2 : L[cntB (gs.take (k + 1))]? = some r := by
      rw [e]
      unfold cntB
      rw [List.getElem?_append_right (Nat.le_refl _), Nat.sub_self]
      rfl
    rw [List.getElem?_eq_getElem hlt] at h2
    exact Option.some.inj h2
  rw [e2]
  exact h1
theorem cuts_ne : ∀ (n : Nat) (rs : List Rec), (∀ r ∈ rs, r.length ≤ 200) → ∀ g ∈ cutsB n rs, g ≠ []
  | 0, rs, _, g, hg => by simp [cutsB] at hg
  | n + 1, rs, h, g, hg => by
    rw [cutsB] at hg
    split at hg
    · simp at hg
    · rename_i hne
      have hp := fitN_some h hne
      have hl : 0 < rs.length := List.length_pos_iff.2 hne
      rcases List.mem_cons.1 hg with rfl | hg
      · intro e
        have := congrArg List.length e
        rw [List.length_take, List.length_nil] at this
        omega
      · exact cuts_ne n _ (fun r hr => h r (List.mem_of_mem_drop hr)) g hg

/-- Blocks, and behind them something that isn't the block that is due. -/
theorem scan_stop (bad : Nat → Bool) {first : Nat} {gs : List (List Rec)} (h : Fits first gs) (hb : ∀ j, j < gs.length → bad j = false) (junk : List UInt8)
    (hj : bad gs.length = true ∨ junk.length < 512 ∨ (∃ e, decB (junk.take 512) = .error e) ∨ ∃ f rs, decB (junk.take 512) = .ok (f, rs) ∧ f ≠ first + cntB gs) (m : Nat) (hm : (pkB first gs ++ junk).length / 512 = m) :
    scanB bad m (pkB first gs ++ junk) 0 first = (gs.flatten, gs.length) := by
  have hl : (pkB first gs).length = 512 * gs.length := pkB_length _ _ h
  have hm2 : m = gs.length + junk.length / 512 := by rw [← hm, List.length_append, hl]; omega
  rw [hm2, scan_front bad gs _ junk 0 first h (fun j _ hj => hb j (by omega))]
  have hz : scanB bad (junk.length / 512) junk (0 + gs.length) (first + cntB gs) = ([], 0) := by
    cases hq : junk.length / 512 with
    | zero => rfl
    | succ q =>
      rw [scanB, Nat.zero_add]
      rcases hj with hj | hj | ⟨e, hj⟩ | ⟨f, rs, hj, hne⟩
      · rw [if_pos (.inr hj)]
      · rw [if_pos (.inl hj)]
      · split
        · rfl
        · rw [hj]
      · split
        · rfl
        · rw [hj]
          show (if f = first + cntB gs then _ else _) = _
          rw [if_neg hne]
  rw [hz, List.append_nil]; rfl
end Go.Proofs.YtkfjkfpodkbkaaaGreatDoor
