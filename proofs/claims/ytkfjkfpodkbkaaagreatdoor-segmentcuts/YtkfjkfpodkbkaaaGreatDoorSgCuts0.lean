/- segment: what stands behind the good blocks, in lists; records put together behind a scan. -/
import Derived.Test.YtkfjkfpodkbkaaaGreatDoorSgBack
import Derived.Test.YtkfjkfpodkbkaaaGreatDoorSgCut
import Derived.Test.YtkfjkfpodkbkaaaGreatDoorSgPush2
set_option linter.unusedVariables false
set_option linter.unusedSimpArgs false
namespace Go.Proofs.YtkfjkfpodkbkaaaGreatDoor
open Go Go.RowKit

theorem bad_none (i : Nat) : badOf [] i = false := by simp [badOf]
theorem scan_shift : ∀ (n : Nat) (d : List UInt8) (i j due : Nat), scanB (badOf []) n d i due = scanB (badOf []) n d j due
  | 0, _, _, _, _ => rfl
  | n + 1, d, i, j, due => by
    have ih := fun due' => scan_shift n (d.drop 512) (i + 1) (j + 1) due'
    rw [scanB, scanB, bad_none, bad_none]
    split
    · rfl
    · split
      · rfl
      · rename_i f rs _
        rw [ih]
theorem scan_few (bad : Nat → Bool) : ∀ (n : Nat) (d : List UInt8) (i due : Nat), (scanB bad n d i due).1.length ≤ 512 * n ∧ 512 * (scanB bad n d i due).2 ≤ d.length ∧ (scanB bad n d i due).2 ≤ n
  | 0, d, i, due => by simp [scanB]
  | n + 1, d, i, due => by
    rw [scanB]
    split
    · simp
    · rename_i hc
      have hl : 512 ≤ d.length := by omega
      cases hd : decB (d.take 512) with
      | error e => simp
      | ok x =>
        obtain ⟨f, rs⟩ := x
        simp only
        split
        · have ih := scan_few bad n (d.drop 512) (i + 1) (due + rs.length)
          have hb := (blk_dec hd).1
          have hr := hb.room
          have ht := bodyB_tot rs
          rw [List.length_drop] at ih
          refine ⟨by simp only [List.length_append]; omega, by omega, by omega⟩
        · simp
/-- The good blocks, and whatever stands behind them. -/
theorem scan_behind {first : Nat} {gs : List (List Rec)} (h : Fits first gs) (junk : List UInt8) :
    scanB (badOf []) ((pkB first gs ++ junk).length / 512) (pkB first gs ++ junk) 0 first = (gs.flatten ++ (scanB (badOf []) (junk.length / 512) junk 0 (first + cntB gs)).1, gs.length + (scanB (badOf []) (junk.length / 512) junk 0 (first + cntB gs)).2) := by
  have hl := pkB_length first gs h
  rw [List.length_append, hl, show (512 * gs.length + junk.length) / 512 = gs.length + junk.length / 512 by omega, scan_front (badOf []) gs (junk.length / 512) junk 0 first h (fun j _ _ => bad_none j), Nat.zero_add, scan_shift _ junk gs.length 0]
theorem cut_data (F : Fil) (n : Nat) (h : n ≤ F.seen.data.length) : (F.cut n).seen.data.length = n := by
  show (F.seen.data.take _).length = n
  rw [List.length_take]; omega
theorem cut_bad (F : Fil) (n : Nat) (h : F.seen.bad = []) : (F.cut n).seen.bad = [] := by
  show F.seen.bad.take _ = []
  rw [h]; simp

/-- Records put behind others: those of an older world, and those of a row that was just made. -/
theorem AllR.joined {w0 wr w' : World} {base B : Nat} {va va' v2 : Value} {L M : List Rec} {vs us : List Value} (h : AllR w0 wr base va L vs) (k : Recs wr B v2 M us) (ho : OwnV w' base va' (vs ++ us)) (hg : wr.grownBy w' va.ownBlock) (u : Up w0 w') : AllR w' w' base va' (L ++ M) (vs ++ us) := by
  refine ⟨ho, by simp [h.len, k.len], fun i h1 h2 => ?_⟩
  by_cases hi : i < vs.length
  · rw [List.getElem_append_left hi, List.getElem_append_left (by rw [← h.len]; exact hi)]
    exact (h.each i _ _).up u
  · have e := h.len
    have hi1 : i - vs.length < us.length := by rw [List.length_append] at h1; omega
    rw [List.getElem_append_right (by omega), List.getElem_append_right (by omega)]
    simp only [e]
    have o := k.each (i - L.length) (by omega) (by rw [← k.len]; omega)
    exact (o.grown hg (fun g hgg e => rows_apartM h.row o e hgg)).sl.mono (Nat.zero_le _)
theorem recs_cells {w : World} {base : Nat} {v : Value} {L : List (List UInt8)} {vs : List Value} (h : Recs w base v L vs) : ∃ ao cap, v = .slice ao vs.length cap ∧ (ao = none → vs = []) ∧ ∀ ad, ao = some ad → ∀ j u, vs[j]? = some u → w.cell? (ad.add j) = some u := by
  rcases h.row.parts with ⟨rfl, rfl⟩ | ⟨g, cap, cur, rfl, hb, hlt, hg, hnc, hcm, hcs, ht⟩
  · exact ⟨none, 0, rfl, fun _ => rfl, fun ad e => by cases e⟩
  · refine ⟨_, cap, rfl, (fun e => by cases e), fun ad e j u hj => ?_⟩
    cases e
    exact World.ownsRow.cells h.row (g := g) rfl j u hj
/-- The row of records alone grows. -/
theorem BackR.row {w0 w1 w2 w' : World} {db sb x : Nat} {va va' : Value} {GS : List (List Rec)} {wt i : Nat} {F : Fil} {ops room : Nat} {L : List Nat} {vs : List Value}
    (h : BackR w0 w1 w2 db sb x va GS wt i F ops room L vs) (ho : OwnV w' w1.heap.size va' vs) (hg : w2.grownBy w' va.ownBlock) (hmv : ∀ k, va'.ownBlock = some k → va.ownBlock = some k ∨ w2.heap.size ≤ k) : BackR w0 w1 w' db sb x va' GS wt i F ops room L vs := by
  have t : Touch w2 w' (ob va) := Touch.of_grown hg (fun k hk => mem_ob.2 hk)
  have hbl : ∀ k, va.ownBlock = some k → w1.heap.size ≤ k ∧ k < w2.heap.size := fun k hk => World.ownsRow.lt h.all.row k hk
  have hlt := h.sg.dsk.lt
  have hsb := h.sg.box.lt
  refine ⟨h.sg.kept t (fun k hk => ⟨(h.apart k (mem_ob.1 hk)).1, (h.apart k (mem_ob.1 hk)).2, (hbl k (mem_ob.1 hk)).1⟩), h.fok, h.dat, h.bad, h.fit, ⟨ho, h.all.len, h.all.each⟩, fun k hk => ?_, h.num⟩
  rcases hmv k hk with r | r
  · exact h.apart k r
  · exact ⟨fun hm => by have := hlt k hm; omega, fun e => by omega⟩
/-- The junk is put behind the blocks. -/
theorem BackR.junk {w0 w1 wr w6 : World} {db sb x : Nat} {va : Value} {GS : List (List Rec)} {wt i : Nat} {F : Fil} {ops room : Nat} {L L6 : List Nat} {vs : List Value} {D : Dsk}
    (h : BackR w0 w1 wr db sb x va GS wt i F ops room L vs) (hb : w1.heap.size ≤ wr.heap.size) (hd : DiskAt w6 w1.heap.size db D L6) (hL : ∀ k ∈ L6, k ∈ L ∨ wr.heap.size ≤ k) (t : Touch wr w6 L) :
    Box w6 sb (scells db (nameB x) (x + cntB GS) GS.length true false) ∧ AllR w0 w6 w1.heap.size va GS.flatten vs ∧ (∀ k, va.ownBlock = some k → k ∉ L6) ∧ Up w1 w6 := by
  refine ⟨t.box h.sg.box h.sg.ns, h.all.kept t (fun k hk hm => (h.apart k hk).1 hm), fun k hk hm => ?_, Touch.up_of h.sg.up t h.sg.dsk.ge⟩
  rcases hL k hm with r | r
  · exact (h.apart k hk).1 r
  · have := (World.ownsRow.lt h.all.row k hk).2; omega
end Go.Proofs.YtkfjkfpodkbkaaaGreatDoor
