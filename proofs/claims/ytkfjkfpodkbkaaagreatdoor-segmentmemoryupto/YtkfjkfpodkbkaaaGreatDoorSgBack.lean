/- segment: SegmentBack. -/
import Derived.Test.YtkfjkfpodkbkaaaGreatDoorMg42
import Derived.Test.YtkfjkfpodkbkaaaGreatDoorMg11
set_option linter.unusedVariables false
set_option linter.unusedSimpArgs false
namespace Go.Proofs.YtkfjkfpodkbkaaaGreatDoor
open Go Go.RowKit

/-- A round that put records on the segment: what holds behind Append, and behind the list's growth. -/
theorem BackR.appended {w0 w1 wr w2 w' : World} {db sb x : Nat} {va va' : Value} {GS : List (List Rec)} {wt i : Nat} {F : Fil} {ops room : Nat} {L L' : List Nat} {vs us : List Value} {Rs : List Rec}
    (h : BackR w0 w1 wr db sb x va GS wt i F ops room L vs) (hx : x ≤ 4611686018427387904) (hn : NumOk (x + cntB GS) Rs.length) (hl : anyLong Rs = false)
    (s : SgAt w1 w2 db sb (nameB x) (x + cntB GS + Rs.length) (GS.length + (packB (x + cntB GS) Rs).length / 512) true false (sgD (nameB x) (F.add (packB (x + cntB GS) Rs)) (ops + 1) 0 (fun _ => none) 0 (room + 1)) L')
    (hL : ∀ k ∈ L', k ∈ L ∨ wr.heap.size ≤ k) (hva2 : AllR w0 w2 w1.heap.size va GS.flatten vs)
    (ho : OwnV w' w1.heap.size va' (vs ++ us)) (hg : w2.grownBy w' va.ownBlock) (hmv : ∀ k, va'.ownBlock = some k → va.ownBlock = some k ∨ w2.heap.size ≤ k) (hul : us.length = Rs.length) (hue : ∀ j (h1 : j < us.length) (h2 : j < Rs.length), Sl 0 w0 us[j] Rs[j]) :
    BackR w0 w1 w' db sb x va' (GS ++ cutsB Rs.length Rs) (wt + (wtR Rs + 1)) (i + 1) (F.add (packB (x + cntB GS) Rs)) (ops + 1) (room + 1) L' (vs ++ us) := by
  obtain ⟨q1, q2, q3, q4, q5⟩ := h.fit.more hn hl
  have t : Touch w2 w' (ob va) := Touch.of_grown hg (fun k hk => mem_ob.2 hk)
  have hbl : ∀ k, va.ownBlock = some k → w1.heap.size ≤ k ∧ k < wr.heap.size := fun k hk => World.ownsRow.lt h.all.row k hk
  have hap : ∀ k, va.ownBlock = some k → k ∉ L' ∧ k ≠ sb := fun k hk => ⟨fun hm => by
    rcases hL k hm with r | r
    · exact (h.apart k hk).1 r
    · have := (hbl k hk).2; omega, (h.apart k hk).2⟩
  have hlt := s.dsk.lt
  have hsb := s.box.lt
  refine ⟨?_, h.fok.add _, ?_, ?_, q1, ?_, ?_, ?_⟩
  · have e1 : x + cntB (GS ++ cutsB Rs.length Rs) = x + cntB GS + Rs.length := by rw [cntB_append, q5]; omega
    have e2 : (GS ++ cutsB Rs.length Rs).length = GS.length + (packB (x + cntB GS) Rs).length / 512 := by rw [q4, List.length_append]; omega
    rw [e1, e2]
    exact s.kept t (fun k hk => ⟨(hap k (mem_ob.1 hk)).1, (hap k (mem_ob.1 hk)).2, (hbl k (mem_ob.1 hk)).1⟩)
  · rw [add_data, h.dat, q3]
  · exact add_bad _ _ h.bad
  · rw [q2]
    exact hva2.more ho hul hue
  · intro k hk
    rcases hmv k hk with r | r
    · exact hap k r
    · exact ⟨fun hm => by have := hlt k hm; omega, fun e => by omega⟩
  · obtain ⟨n1, n2, n3, n4⟩ := h.num
    have := (wtR_le Rs).1
    rw [cntB_append, q5]
    omega
theorem BackR.up {w0 w1 wr w' : World} {db sb x : Nat} {va : Value} {GS : List (List Rec)} {wt i : Nat} {F : Fil} {ops room : Nat} {L : List Nat} {vs : List Value}
    (h : BackR w0 w1 wr db sb x va GS wt i F ops room L vs) (u : Up wr w') : BackR w0 w1 w' db sb x va GS wt i F ops room L vs :=
  ⟨h.sg.next u, h.fok, h.dat, h.bad, h.fit, ⟨ownsRow_up h.all.row u, h.all.len, h.all.each⟩, h.apart, h.num⟩
/-- A round in which nothing was put. -/
theorem BackR.same {w0 w1 wr w' : World} {db sb x : Nat} {va : Value} {GS : List (List Rec)} {wt wt' i : Nat} {F : Fil} {ops room : Nat} {L : List Nat} {vs : List Value}
    (h : BackR w0 w1 wr db sb x va GS wt i F ops room L vs) (u : Up wr w') (hw : wt ≤ wt') : BackR w0 w1 w' db sb x va GS wt' (i + 1) F ops room L vs :=
  ⟨h.sg.next u, h.fok, h.dat, h.bad, h.fit, ⟨ownsRow_up h.all.row u, h.all.len, h.all.each⟩, h.apart, by obtain ⟨n1, n2, n3, n4⟩ := h.num; omega⟩
/-- Gone on with by another one. -/
theorem BackR.opened {w0 w1 wr w' : World} {db sb sb' x : Nat} {va : Value} {GS : List (List Rec)} {wt i : Nat} {F : Fil} {ops room : Nat} {L : List Nat} {vs : List Value}
    (h : BackR w0 w1 wr db sb x va GS wt i F ops room L vs) (u : Up wr w') (b : Box w' sb' (scells db (nameB x) (x + cntB GS) GS.length true false)) (hs : wr.heap.size ≤ sb') : BackR w0 w1 w' db sb' x va GS wt i F ops room L vs := by
  refine ⟨⟨b, h.sg.dsk.up u, fun hm => by have := h.sg.dsk.lt _ hm; omega, Nat.le_trans h.sg.up.size hs, h.sg.up.trans u⟩, h.fok, h.dat, h.bad, h.fit, ⟨ownsRow_up h.all.row u, h.all.len, h.all.each⟩, fun k hk => ⟨(h.apart k hk).1, fun e => ?_⟩, h.num⟩
  have := (World.ownsRow.lt h.all.row k hk).2
  omega
end Go.Proofs.YtkfjkfpodkbkaaaGreatDoor
