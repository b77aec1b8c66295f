/- Merged: SgSick0, SgSick, BkArg, SgArg. -/
import Derived.Test.YtkfjkfpodkbkaaaGreatDoorMg39
import Derived.Test.YtkfjkfpodkbkaaaGreatDoorMg36
import Derived.Deep.Slices
set_option linter.unusedVariables false
set_option linter.unusedSimpArgs false
namespace Go.Proofs.YtkfjkfpodkbkaaaGreatDoor
open Go Go.RowKit

theorem Ops_any (base db : Nat) (D : Dsk) (L : List Nat) (w : World) (h : DiskAt w base db D L) : Calls Tryz.prog 31 #[.pointer (some ⟨db, 0, none⟩)] w fun e w' => e = .returned (.int .i64 (D.ops : Int)) ∧ w' = w := by
  obtain ⟨bs, bf, vch, mp, fl, hV, rfl⟩ := h
  have c : w.cell? ⟨db, 4, none⟩ = some (.int .i64 (D.ops : Int)) := hV.box.cell 4
  clear hV
  go_enter Tryz.func31, Tryz.ntmps31
  go_wp2
  go_ret
  exact ⟨rfl, rfl⟩

/-- What the first operation is armed with. -/
theorem sick_fate (nm : Nm) (F : Fil) (part : Int) (room : Nat) : (sgD nm F 2 2 (onePart part) 0 room).fate = .fails part := by
  simp [Dsk.fate, sgD, onePart]
/-- The segment in the loop: its disk is armed somehow. -/
def Sk (W00 w : World) (db sb : Nat) (x : Nat) : Prop := ∃ a p L, a ≤ 2 ∧ SgAt W00 w db sb (nameB x) x 0 true false (sgD (nameB x) (Fil.made ⟨[], []⟩) 2 a p 0 3) L
theorem cutsB_le : ∀ (n : Nat) (rs : List Rec), (cutsB n rs).length ≤ n
  | 0, _ => by simp [cutsB]
  | n + 1, rs => by
    unfold cutsB
    split
    · simp
    · have := cutsB_le n (rs.drop (fitN 0 rs))
      simp only [List.length_cons]
      omega
theorem packB_le (first : Nat) (L : List Rec) (h : ∀ r ∈ L, r.length ≤ 200) (h1 : 1 ≤ first) (h2 : first + L.length ≤ 2 ^ 62 + 1) : (packB first L).length ≤ 512 * L.length := by
  have hl : (packB first L).length = 512 * (cutsB L.length L).length := pkB_length _ _ (cuts_fit _ _ _ h h1 h2)
  have := cutsB_le L.length L
  omega
theorem anyLong_pk {ad : Nat → Addr} {x : Nat} {L : List Rec} (hne : L ≠ []) (hn : NumOk x L.length) (hl : anyLong L = true) : pkE ad x L = E (ad 3) := by
  unfold pkE
  rw [if_neg hne, if_pos hn, if_pos hl]

/-- A disk is armed anew. -/
theorem SgAt.armed {W00 w w' : World} {db sb : Nat} {nm : Nm} {next blocks : Nat} {whole sick : Bool} {D D' : Dsk} {L : List Nat} (h : SgAt W00 w db sb nm next blocks whole sick D L) (hd : OpDone w W00.heap.size db D' L w') : ∃ L', SgAt W00 w' db sb nm next blocks whole sick D' L' := by
  obtain ⟨L', d1, d2, d3⟩ := hd
  refine ⟨L', d3.box h.box h.ns, d1, fun hm => ?_, h.new, Touch.up_of h.up d3 h.dsk.ge⟩
  rcases d2 sb hm with q | q
  · exact h.ns q
  · have := h.box.lt; omega
end Go.Proofs.YtkfjkfpodkbkaaaGreatDoor

set_option linter.unusedVariables false
set_option linter.unusedSimpArgs false
namespace Go.Proofs.YtkfjkfpodkbkaaaGreatDoor
open Go Go.RowKit

end Go.Proofs.YtkfjkfpodkbkaaaGreatDoor

set_option linter.unusedVariables false
namespace Go.Proofs.YtkfjkfpodkbkaaaGreatDoor
open Go Go.RowKit Go.ChangeShapes Go.WideShapes

theorem Tryz.cellsBytes : Tryz.prog.cellsOf 60 = 1 := by kernel_rfl
theorem Tryz.bytesBytes : Tryz.prog.bytesOf 60 = 24 := by kernel_rfl
theorem Tryz.readableRows : Tryz.prog.readableRec 44 = true := by kernel_rfl

theorem all_part {H : Type} {P : Program} {e : TypeId} {d : DataW H} : ∀ {l : List (DataW H)}, (DataW.weightsAll P e l).all (· ≤ reachBytes) = true → d ∈ l → (DataW.weights P e d).all (· ≤ reachBytes) = true
  | [], _, h => by cases h
  | x :: r, hw, h => by
    simp only [DataW.weightsAll, List.all_append, Bool.and_eq_true] at hw
    rcases List.mem_cons.1 h with e | e
    · subst e; exact hw.1
    · exact all_part hw.2 e

/-- What the reach says of rows. -/
def RowsFit (L : List (List UInt8)) : Prop := (L.length : Int) ≤ 5864062014805 ∧ ∀ l ∈ L, (l.length : Int) ≤ 140737488351232

theorem bytes_weight {H : Type} {d : DataW H} {bs : List UInt8} (hw : (DataW.weights Tryz.prog 60 d).all (· ≤ reachBytes) = true)
    (h : (d = .nil ∧ bs = []) ∨ ∃ elems spare, d = .slice elems spare ∧ elems.length = bs.length) : (bs.length : Int) ≤ 140737488351232 := by
  rcases h with ⟨_, rfl⟩ | ⟨elems, spare, rfl, he⟩
  · simp
  · simp only [DataW.weights, Tryz.underlying60, List.all_cons, Bool.and_eq_true] at hw
    have h1 := of_decide_eq_true hw.1
    rw [Tryz.bytesU8] at h1
    simp only [reachBytes] at h1
    omega

theorem open_rows {H : Type} {enc : TypeId × Value → H} {W : World} {v : Value} {d : DataW H} {p : List MemPlace} (hv : ∃ a n c, v = .slice a n c)
    (h : DataW.Trod enc Tryz.prog W 0 (fun _ => true) true 44 v d p) :
    ∃ L, Rw W v L ∧ ((DataW.weights Tryz.prog 44 d).all (· ≤ reachBytes) = true → RowsFit L) := by
  obtain ⟨a0, n0, c0, rfl⟩ := hv
  obtain ⟨fuel, hf⟩ := h
  rcases Go.Deep.open_slice1 Tryz.underlying44 Tryz.cellsBytes hf with ⟨hcs, hx⟩ | ⟨a, len, cap, m, n, V, D, Pl, hcs, _, hl, hm, hm2, hx, hel⟩
  · simp [Value.cells] at hcs
    obtain ⟨rfl, rfl, rfl⟩ := hcs
    exact ⟨[], ⟨none, 0, rfl, Nat.le_refl _, fun h => absurd rfl h⟩, fun _ => ⟨by simp, fun l hl => by cases hl⟩⟩
  · simp [Value.cells] at hcs
    obtain ⟨rfl, rfl, rfl⟩ := hcs
    simp only [if_true] at hm2
    subst hm2
    simp only [Prod.mk.injEq] at hx
    obtain ⟨rfl, _⟩ := hx
    by_cases hn : n0 = 0
    · subst hn
      exact ⟨[], ⟨some a, m, rfl, Nat.zero_le _, fun h => absurd rfl h⟩, fun _ => ⟨by simp, fun l hl => by cases hl⟩⟩
    · have hplain : a = ⟨a.block, a.off, none⟩ := by
        have h2 := (hel 0 (by omega)).1
        have e : a.add 0 = a := by simp [Addr.add]
        rw [e] at h2
        exact addr_plain h2
      have each : ∀ i, i < n0 → ∃ bs, W.cell? ⟨a.block, a.off + i, none⟩ = some (V i) ∧ Sl 0 W (V i) bs ∧ ((DataW.weights Tryz.prog 60 (D i)).all (· ≤ reachBytes) = true → (bs.length : Int) ≤ 140737488351232) := by
        intro i hi
        obtain ⟨h1, h2⟩ := hel i (by omega)
        rw [hplain, Addr.add_lit] at h1
        have hv : ∃ a n c, V i = .slice a n c := by
          rcases DataW.trod_slice Tryz.underlying60 h2 with ⟨h, _⟩ | ⟨a, len, cap, _, _, _, _, h, _⟩
          · simp at h; exact ⟨_, _, _, h⟩
          · simp at h; exact ⟨_, _, _, h⟩
        have htr : DataW.Trod enc Tryz.prog W 0 (fun _ => true) true 60 (V i) (D i) (Pl i) := by
          obtain ⟨a1, n1, c1, e⟩ := hv
          exact ⟨n, by rw [e] at h2 ⊢; simpa [Value.cells] using h2⟩
        obtain ⟨bs, hs, hd⟩ := open_bytes hv htr
        exact ⟨bs, h1, hs, fun hw => bytes_weight hw hd⟩
      have hch : ∃ f : Nat → List UInt8, ∀ i, i < n0 → W.cell? ⟨a.block, a.off + i, none⟩ = some (V i) ∧ Sl 0 W (V i) (f i) ∧ ((DataW.weights Tryz.prog 60 (D i)).all (· ≤ reachBytes) = true → ((f i).length : Int) ≤ 140737488351232) := by
        refine ⟨fun i => if h : i < n0 then Classical.choose (each i h) else [], fun i hi => ?_⟩
        simp only [dif_pos hi]
        exact Classical.choose_spec (each i hi)
      obtain ⟨f, hf⟩ := hch
      have hlen : ((List.range n0).map f).length = n0 := by simp
      refine ⟨(List.range n0).map f, ⟨some a, m, by rw [hlen], by rw [hlen]; exact hl, fun _ => ⟨a.block, a.off, congrArg some hplain, ?_⟩⟩, fun hw => ?_⟩
      · intro i hi
        rw [hlen] at hi
        obtain ⟨h1, h2, _⟩ := hf i hi
        exact ⟨V i, h1, by simpa using h2⟩
      · simp only [DataW.weights, Tryz.underlying44, List.all_cons, List.all_append, Bool.and_eq_true] at hw
        obtain ⟨hw1, hw2, _⟩ := hw
        have hw1' := of_decide_eq_true hw1
        rw [Tryz.bytesBytes, List.length_map, List.length_range] at hw1'
        refine ⟨?_, ?_⟩
        · rw [hlen]
          simp only [reachBytes] at hw1'
          omega
        · intro l hl
          obtain ⟨i, hi, rfl⟩ := List.mem_map.1 hl
          have hi' := List.mem_range.1 hi
          exact (hf i hi').2.2 (all_part hw2 (List.mem_map.2 ⟨i, List.mem_range.2 hi', rfl⟩))
end Go.Proofs.YtkfjkfpodkbkaaaGreatDoor

set_option linter.unusedVariables false
namespace Go.Proofs.YtkfjkfpodkbkaaaGreatDoor
open Go Go.RowKit Go.ChangeShapes Go.WideShapes

theorem Tryz.cellsGroup : Tryz.prog.cellsOf 48 = 2 := by kernel_rfl
theorem Tryz.bytesGroup : Tryz.prog.bytesOf 48 = 32 := by kernel_rfl
theorem Tryz.cellsBool1 : Tryz.prog.cellsOf 4 = 1 := by kernel_rfl
theorem Tryz.cellsRows9 : Tryz.prog.cellsOf 44 = 1 := by kernel_rfl
theorem Tryz.readableGroups : Tryz.prog.readableRec 28 = true := by kernel_rfl

/-- A group's bounds. -/
def GFits (g : Grp) : Prop := g.1.length ≤ 140737488355328 ∧ ∀ r ∈ g.1, r.length ≤ 140737488355328

set_option maxRecDepth 20000 in
theorem open_group {H : Type} {enc : TypeId × Value → H} {W : World} {b o n : Nat} {cs : List Value} {x : DataW H × List MemPlace} (hc : W.cells? 0 ⟨b, o, none⟩ 2 = some cs)
    (h : DataW.trod enc Tryz.prog W 0 (fun _ => true) true n 48 cs = some x) :
    ∃ g : Grp, ((∃ vi, W.cell? ⟨b, o, none⟩ = some vi ∧ Rw W vi g.1) ∧ W.cell? ⟨b, o + 1, none⟩ = some (.bool g.2)) ∧ ((DataW.weights Tryz.prog 48 x.1).all (· ≤ reachBytes) = true → GFits g) := by
  obtain ⟨xs, m, _, rfl, hl, hlen, hf⟩ := DataW.trod_struct Tryz.underlying48 h
  rw [Tryz.cellsGroup] at hl
  match cs, hl with
  | [c0, c1], _ =>
    match xs, hlen with
    | [y0, y1], _ =>
      have f0 : DataW.trod enc Tryz.prog W 0 (fun _ => true) true m 44 (([c0, c1].drop 0).take (Tryz.prog.cellsOf 44)) = some y0 := hf 0 _ rfl
      have f1 : DataW.trod enc Tryz.prog W 0 (fun _ => true) true m 4 (([c0, c1].drop 1).take (Tryz.prog.cellsOf 4)) = some y1 := hf 1 _ rfl
      rw [Tryz.cellsRows9] at f0
      rw [Tryz.cellsBool1] at f1
      simp at f0 f1
      obtain ⟨q, e1, _⟩ := DataW.trod_bool Tryz.underlying4 f1
      simp at e1
      subst e1
      have hcells : W.cell? ⟨b, o, none⟩ = some c0 ∧ W.cell? ⟨b, o + 1, none⟩ = some (.bool q) := by
        unfold World.cells? at hc
        rw [if_pos (Nat.zero_le _)] at hc
        have hr : List.range 2 = [0, 1] := by decide
        rw [hr] at hc
        simp only [List.mapM_cons, List.mapM_nil, Addr.add_lit, Nat.add_zero] at hc
        simp only [Option.bind_eq_bind, Option.bind_eq_some_iff, Option.pure_def, Option.some.injEq] at hc
        obtain ⟨a0, h0, r0, ⟨a1, h1, r1, g1, g2⟩, g3⟩ := hc
        subst g1 g2
        simp at g3
        obtain ⟨rfl, rfl⟩ := g3
        exact ⟨h0, h1⟩
      have hv2 : ∃ a n c, c0 = .slice a n c := by
        rcases DataW.trod_slice Tryz.underlying44 f0 with ⟨h, _⟩ | ⟨a, len, cap, _, _, _, _, h, _⟩
        · simp at h; exact ⟨_, _, _, h⟩
        · simp at h; exact ⟨_, _, _, h⟩
      obtain ⟨a2, n2, c2', rfl⟩ := hv2
      have htr2 : DataW.Trod enc Tryz.prog W 0 (fun _ => true) true 44 (.slice a2 n2 c2') y0.1 y0.2 := ⟨m, by simpa [Value.cells] using f0⟩
      obtain ⟨L, hL, hLf⟩ := open_rows ⟨_, _, _, rfl⟩ htr2
      refine ⟨(L, q), ⟨⟨_, hcells.1, hL⟩, hcells.2⟩, fun hw => ?_⟩
      have e : DataW.weights Tryz.prog 48 (.agg ([y0, y1].map (·.1))) = DataW.weightsEach Tryz.prog [44, 4] [y0.1, y1.1] := by
        simp only [DataW.weights, Tryz.underlying48]
        rfl
      rw [e] at hw
      have h2 := hLf (List.all_eq_true.2 fun n hn => List.all_eq_true.1 hw n (DataW.weights_mem_each (j := 0) rfl rfl n hn))
      exact ⟨by have := h2.1; show L.length ≤ _; omega, fun r hr => by have := h2.2 r hr; omega⟩

set_option maxRecDepth 20000 in
theorem open_groups {H : Type} {enc : TypeId × Value → H} {W : World} {v : Value} {d : DataW H} {p : List MemPlace} (hv : ∃ a n c, v = .slice a n c)
    (h : DataW.Trod enc Tryz.prog W 0 (fun _ => true) true 28 v d p) :
    ∃ gs, Grw W v gs ∧ ((DataW.weights Tryz.prog 28 d).all (· ≤ reachBytes) = true → gs.length ≤ 140737488355327 ∧ ∀ g ∈ gs, GFits g) := by
  obtain ⟨a0, n0, c0, rfl⟩ := hv
  obtain ⟨fuel, hf⟩ := h
  rcases Go.Deep.open_slice Tryz.underlying28 hf with ⟨hcs, hx⟩ | ⟨a, len, cap, m, n, D, Pl, hcs, _, hl, hm, hm2, hx, hel⟩
  · simp [Value.cells] at hcs
    obtain ⟨rfl, rfl, rfl⟩ := hcs
    exact ⟨[], ⟨none, 0, rfl, Nat.le_refl _, fun h => absurd rfl h⟩, fun _ => ⟨by simp, fun p hp => by cases hp⟩⟩
  · simp [Value.cells] at hcs
    obtain ⟨rfl, rfl, rfl⟩ := hcs
    simp only [if_true] at hm2
    subst hm2
    simp only [Prod.mk.injEq] at hx
    obtain ⟨rfl, _⟩ := hx
    rw [Tryz.cellsGroup] at hel
    by_cases hn : n0 = 0
    · subst hn
      exact ⟨[], ⟨some a, m, rfl, Nat.zero_le _, fun h => absurd rfl h⟩, fun _ => ⟨by simp, fun p hp => by cases hp⟩⟩
    · have hplain : a = ⟨a.block, a.off, none⟩ := by
        obtain ⟨cs', h1, _⟩ := hel 0 (by omega)
        unfold World.cells? at h1
        rw [if_pos (Nat.zero_le _)] at h1
        have hr : List.range 2 = [0, 1] := by decide
        rw [hr] at h1
        simp only [List.mapM_cons, Option.bind_eq_bind, Option.bind_eq_some_iff] at h1
        obtain ⟨x, h2, _⟩ := h1
        have e : (a.add (0 * 2)).add 0 = a := by simp [Addr.add]
        rw [e] at h2
        exact addr_plain h2
      have each : ∀ i, i < n0 → ∃ g : Grp, ((∃ vi, W.cell? ⟨a.block, a.off + i * 2, none⟩ = some vi ∧ Rw W vi g.1) ∧ W.cell? ⟨a.block, a.off + i * 2 + 1, none⟩ = some (.bool g.2)) ∧ ((DataW.weights Tryz.prog 48 (D i)).all (· ≤ reachBytes) = true → GFits g) := by
        intro i hi
        obtain ⟨cs', h1, h2⟩ := hel i (by omega)
        rw [hplain, Addr.add_lit] at h1
        exact open_group h1 h2
      have hch : ∃ f : Nat → Grp, ∀ i, i < n0 → ((∃ vi, W.cell? ⟨a.block, a.off + i * 2, none⟩ = some vi ∧ Rw W vi (f i).1) ∧ W.cell? ⟨a.block, a.off + i * 2 + 1, none⟩ = some (.bool (f i).2)) ∧ ((DataW.weights Tryz.prog 48 (D i)).all (· ≤ reachBytes) = true → GFits (f i)) := by
        refine ⟨fun i => if h : i < n0 then Classical.choose (each i h) else ([], false), fun i hi => ?_⟩
        simp only [dif_pos hi]
        exact Classical.choose_spec (each i hi)
      obtain ⟨f, hf⟩ := hch
      have hlen : ((List.range n0).map f).length = n0 := by simp
      refine ⟨(List.range n0).map f, ⟨some a, m, by rw [hlen], by rw [hlen]; exact hl, fun _ => ⟨a.block, a.off, congrArg some hplain, ?_⟩⟩, fun hw => ?_⟩
      · intro i hi
        rw [hlen] at hi
        simpa using (hf i hi).1
      · simp only [DataW.weights, Tryz.underlying28, List.all_cons, List.all_append, Bool.and_eq_true] at hw
        obtain ⟨hw1, hw2, _⟩ := hw
        have hw1' := of_decide_eq_true hw1
        rw [Tryz.bytesGroup, List.length_map, List.length_range] at hw1'
        refine ⟨?_, ?_⟩
        · rw [hlen]
          simp only [reachBytes] at hw1'
          omega
        · intro p hp
          obtain ⟨i, hi, rfl⟩ := List.mem_map.1 hp
          have hi' := List.mem_range.1 hi
          exact (hf i hi').2 (all_part hw2 (List.mem_map.2 ⟨i, List.mem_range.2 hi', rfl⟩))
theorem own9 : ownKnob Tryz.prog.godebug = none := by kernel_rfl
set_option maxRecDepth 20000 in
theorem tz_of_laid {W : World} (h : laidMetH Tryz.prog [("math/bits.deBruijn64tab", Rows.laid_math_bits_deBruijn64tab)] W) : W.cell? ⟨17, 15, none⟩ = some (.int .u8 4) := by
  rw [MakeChecks.laidMetH_plain _ _ _ (by kernel_rfl)] at h
  obtain ⟨ps, ⟨g, t, cs, fuel, p, q, hg, ht, hv, hd, _, _⟩, _, _⟩ := h
  obtain rfl := Option.some.inj ((show Tryz.prog.globalNamed "math/bits.deBruijn64tab" = some 17 by kernel_rfl).symm.trans hg)
  obtain rfl := Option.some.inj ((show (Tryz.prog.globals[17]?).map (·.type) = some 256 by kernel_rfl).symm.trans ht)
  obtain ⟨xs, m, _, ex, _, hl, hel⟩ := DataW.trod_array Tryz.underlying256 hd
  have c5 : Tryz.prog.cellsOf 5 = 1 := by kernel_rfl
  have hE := hel 15 (by decide)
  have hx15 : 15 < xs.length := by omega
  rw [c5, Nat.mul_one, List.getElem?_eq_getElem hx15] at hE
  obtain ⟨z, e1, e2, _⟩ := DataW.trod_int Tryz.underlying5 hE
  have e3 : (DataW.agg (xs.map (·.1)) : DataW Unit) = Rows.laid_math_bits_deBruijn64tab := (Prod.mk.inj ex).1.symm
  have e4 : (xs.map (·.1))[15]? = some (DataW.lit (.int .u8 4) : DataW Unit) := by
    have := DataW.agg.inj e3
    rw [this]; rfl
  rw [List.getElem?_map, List.getElem?_eq_getElem hx15, e2] at e4
  have hz : z = 4 := by simpa using e4
  subst hz
  rw [World.var?_cell hg hv 15]
  have : cs.toList[15]? = some (.int .u8 4) := by
    have h0 : ((cs.toList.drop 15).take 1)[0]? = some (.int .u8 4) := by rw [e1]; rfl
    simpa using h0
  simpa using this

set_option maxRecDepth 20000 in
theorem ks_of {l : List (String × DataW Unit)} {W : World} (h : laidMetH Tryz.prog l W) (hp : (l.all fun x => x.2.handleName?.isNone) = true)
    (hT : (l.filter fun x => x.1 == "turnstile/crc.halves") = [("turnstile/crc.halves", Rows.laid_turnstile_crc_halves)])
    (hB : (l.filter fun x => x.1 == "math/bits.deBruijn64tab") = [("math/bits.deBruijn64tab", Rows.laid_math_bits_deBruijn64tab)])
    (hArg : (l.filter fun x => x.1 == "turnstile/api.ErrArg") = [("turnstile/api.ErrArg", .iface "*errors.errorString" (.ptr (.agg [.lit (.string (errTxt 2))])))])
    (hShort : (l.filter fun x => x.1 == "turnstile/api.ErrShort") = [("turnstile/api.ErrShort", .iface "*errors.errorString" (.ptr (.agg [.lit (.string (errTxt 9))])))])
    (hForm : (l.filter fun x => x.1 == "turnstile/api.ErrForm") = [("turnstile/api.ErrForm", .iface "*errors.errorString" (.ptr (.agg [.lit (.string (errTxt 10))])))])
    (hLong : (l.filter fun x => x.1 == "turnstile/api.ErrLong") = [("turnstile/api.ErrLong", .iface "*errors.errorString" (.ptr (.agg [.lit (.string (errTxt 3))])))])
    (hSum : (l.filter fun x => x.1 == "turnstile/api.ErrSum") = [("turnstile/api.ErrSum", .iface "*errors.errorString" (.ptr (.agg [.lit (.string (errTxt 11))])))])
    (hIo : (l.filter fun x => x.1 == "turnstile/api.ErrIo") = [("turnstile/api.ErrIo", .iface "*errors.errorString" (.ptr (.agg [.lit (.string (errTxt 0))])))])
    (hDown : (l.filter fun x => x.1 == "turnstile/api.ErrDown") = [("turnstile/api.ErrDown", .iface "*errors.errorString" (.ptr (.agg [.lit (.string (errTxt 1))])))])
    (hGone : (l.filter fun x => x.1 == "turnstile/api.ErrGone") = [("turnstile/api.ErrGone", .iface "*errors.errorString" (.ptr (.agg [.lit (.string (errTxt 8))])))])
    (hThere : (l.filter fun x => x.1 == "turnstile/api.ErrThere") = [("turnstile/api.ErrThere", .iface "*errors.errorString" (.ptr (.agg [.lit (.string (errTxt 7))])))])
    (hSick : (l.filter fun x => x.1 == "turnstile/api.ErrSick") = [("turnstile/api.ErrSick", .iface "*errors.errorString" (.ptr (.agg [.lit (.string (errTxt 4))])))])
    (hNil : (l.filter fun x => x.1 == "turnstile/api.ErrNil") = [("turnstile/api.ErrNil", .iface "*errors.errorString" (.ptr (.agg [.lit (.string (errTxt 6))])))])
    : ∃ ad, Ks W ad := by
  have ht := h.filter (fun x => x.1 == "turnstile/crc.halves")
  rw [hT] at ht
  have hb := h.filter (fun x => x.1 == "math/bits.deBruijn64tab")
  rw [hB] at hb
  obtain ⟨aArg, kArg⟩ := gl_of_laid h hArg hp Tryz.gArg Tryz.gtArg
  obtain ⟨aShort, kShort⟩ := gl_of_laid h hShort hp Tryz.gShort Tryz.gtShort
  obtain ⟨aForm, kForm⟩ := gl_of_laid h hForm hp Tryz.gForm Tryz.gtForm
  obtain ⟨aLong, kLong⟩ := gl_of_laid h hLong hp Tryz.gLong Tryz.gtLong
  obtain ⟨aSum, kSum⟩ := gl_of_laid h hSum hp Tryz.gSum Tryz.gtSum
  obtain ⟨aIo, kIo⟩ := gl_of_laid h hIo hp Tryz.gIo Tryz.gtIo
  obtain ⟨aDown, kDown⟩ := gl_of_laid h hDown hp Tryz.gDown Tryz.gtDown
  obtain ⟨aGone, kGone⟩ := gl_of_laid h hGone hp Tryz.gGone Tryz.gtGone
  obtain ⟨aThere, kThere⟩ := gl_of_laid h hThere hp Tryz.gThere Tryz.gtThere
  obtain ⟨aSick, kSick⟩ := gl_of_laid h hSick hp Tryz.gSick Tryz.gtSick
  obtain ⟨aNil, kNil⟩ := gl_of_laid h hNil hp Tryz.gNil Tryz.gtNil
  refine ⟨fun g =>
    if g = 2 then aArg else
    if g = 9 then aShort else
    if g = 10 then aForm else
    if g = 3 then aLong else
    if g = 11 then aSum else
    if g = 0 then aIo else
    if g = 1 then aDown else
    if g = 8 then aGone else
    if g = 7 then aThere else
    if g = 4 then aSick else
    aNil, table_of_laid ht, fun g hg => ?_, tz_of_laid hb⟩
  simp only [segErrs, List.mem_cons, List.not_mem_nil, or_false] at hg
  rcases hg with rfl | rfl | rfl | rfl | rfl | rfl | rfl | rfl | rfl | rfl | rfl
  · exact kArg
  · exact kShort
  · exact kForm
  · exact kLong
  · exact kSum
  · exact kIo
  · exact kDown
  · exact kGone
  · exact kThere
  · exact kSick
  · exact kNil
end Go.Proofs.YtkfjkfpodkbkaaaGreatDoor
