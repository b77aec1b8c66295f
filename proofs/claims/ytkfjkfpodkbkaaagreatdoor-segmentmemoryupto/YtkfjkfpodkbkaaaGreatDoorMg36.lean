/- Merged: BkHelp, BkLaw, BkAwake, LaidT, BkKn, SgSeg. -/
import Derived.Test.YtkfjkfpodkbkaaaGreatDoorMg29
import Derived.Deep.RegionWith
import Derived.Test.YtkfjkfpodkbkaaaGreatDoorMg35
import Derived.Test.YtkfjkfpodkbkaaaGreatDoorMg26
import Derived.Test.YtkfjkfpodkbkaaaGreatDoorRows
import Derived.LaidLaws
import Derived.MakeChecks
import Derived.ProofKit
import Derived.OpenShut
import Derived.Test.YtkfjkfpodkbkaaaGreatDoorMg18
import Derived.Test.YtkfjkfpodkbkaaaGreatDoorMg25
set_option linter.unusedVariables false
set_option linter.unusedSimpArgs false
namespace Go.Proofs.YtkfjkfpodkbkaaaGreatDoor
open Go Go.RowKit

theorem ownblocks_iff (vs : List Value) : (vs.filterMap Value.ownBlock).Nodup ↔ ∀ i j (hi : i < vs.length) (hj : j < vs.length) g, i < j → vs[i].ownBlock = some g → vs[j].ownBlock ≠ some g := by
  rw [List.Nodup, List.pairwise_filterMap, List.pairwise_iff_getElem]
  constructor
  · intro h i j hi hj g hij e1 e2
    exact h i j hi hj hij g e1 g e2 rfl
  · intro h i j hi hj hij x e1 y e2 e
    subst e
    exact h i j hi hj x hij e1 e2

theorem OwnV.set {w : World} {base g n cap : Nat} {vs : List Value} (h : OwnV w base (.slice (some ⟨g, 0, none⟩) n cap) vs) (k : Nat) (hk : k < vs.length) (u : Value) :
    OwnV (w.setCell ⟨g, k, none⟩ u) base (.slice (some ⟨g, 0, none⟩) n cap) (vs.set k u) := by
  rcases h.parts with ⟨e, _⟩ | ⟨g', cap', cur, e, hb, hlt, hg, hnc, hcm, hcs, ht⟩
  · cases e
  · simp only [Value.slice.injEq, Option.some.injEq, Addr.mk.injEq] at e
    obtain ⟨⟨rfl, _⟩, rfl, rfl⟩ := e
    refine ⟨by simp, .inr ⟨g, cap, cur.setIfInBounds k u, by simp, hb, heap_setCell2 w g _ k cur _ hg, by simpa using hnc, hcm, by simpa using hcs, ?_⟩⟩
    rw [Array.toList_setIfInBounds, List.length_set, Nat.mul_one, List.take_set, ht]

/-- A row of own rows that no conversion marked. -/
structure RecsO (w : World) (base : Nat) (v : Value) (L : List (List UInt8)) (vs : List Value) : Prop where
  row : OwnV w base v vs
  len : vs.length = L.length
  each : ∀ i (h1 : i < vs.length) (h2 : i < L.length), Own w 5 base vs[i] L[i]
  nd : (vs.filterMap Value.ownBlock).Nodup
theorem RecsO.recs {w : World} {base : Nat} {v : Value} {L : List (List UInt8)} {vs : List Value} (h : RecsO w base v L vs) : Recs w base v L vs :=
  ⟨h.row, h.len, fun i h1 h2 => (h.each i h1 h2).m, h.nd⟩
theorem RecsO.up {w w' : World} {base : Nat} {v : Value} {L : List (List UInt8)} {vs : List Value} (h : RecsO w base v L vs) (u : Up w w') : RecsO w' base v L vs :=
  ⟨ownsRow_up h.row u, h.len, fun i h1 h2 => ownsRow_up (h.each i h1 h2) u, h.nd⟩
theorem RecsO.set {w : World} {base base' g n cap : Nat} {L : List (List UInt8)} {vs : List Value} {u : Value} {bs : List UInt8} (h : RecsO w base (.slice (some ⟨g, 0, none⟩) n cap) L vs) (i : Nat) (hi : i < vs.length) (ho : Own w 5 base' u bs) (hlow : base ≤ base')
    (hnd : ∀ x ∈ vs.filterMap Value.ownBlock, x < base') : RecsO (w.setCell ⟨g, i, none⟩ u) base (.slice (some ⟨g, 0, none⟩) n cap) (L.set i bs) (vs.set i u) := by
  have hb := But.setCell w g i u
  refine ⟨h.row.set i hi u, by simp [h.len], fun j h1 h2 => ?_, ?_⟩
  · by_cases hj : j = i
    · subst hj
      simp only [List.getElem_set_self]
      exact ownsRow_low (ownsRow_but ho hb (fun e => rows_apart h.row ho rfl e)) hlow
    · have h1' : j < vs.length := by simpa using h1
      have h2' : j < L.length := by simpa using h2
      rw [List.getElem_set_ne (Ne.symm hj), List.getElem_set_ne (Ne.symm hj)]
      exact ownsRow_but (h.each j h1' h2') hb (fun e => rows_apart h.row (h.each j h1' h2') rfl e)
  · rw [ownblocks_iff]
    intro a b ha hb g2 hab e1 e2
    have hold := (ownblocks_iff vs).1 h.nd
    have ha' : a < vs.length := by simpa using ha
    have hb' : b < vs.length := by simpa using hb
    have hlt : ∀ c (hc : c < vs.length), vs[c].ownBlock = some g2 → g2 < base' := fun c hc e => hnd g2 (List.mem_filterMap.2 ⟨_, List.getElem_mem hc, e⟩)
    by_cases hai : a = i
    · subst hai
      rw [List.getElem_set_self] at e1
      rw [List.getElem_set_ne (by omega)] at e2
      have := (World.ownsRow.lt ho g2 e1).1
      have := hlt b hb' e2
      omega
    · by_cases hbi : b = i
      · subst hbi
        rw [List.getElem_set_self] at e2
        rw [List.getElem_set_ne (by omega)] at e1
        have := (World.ownsRow.lt ho g2 e2).1
        have := hlt a ha' e1
        omega
      · rw [List.getElem_set_ne (by omega)] at e1 e2
        exact hold a b ha' hb' g2 hab e1 e2

theorem make_rows (n : Nat) (hn : n ≤ 5000000000000) (u : World) : (Instr.makeSlice 44 (.int .i64 (n : Int)) (.int .i64 (n : Int))).run Tryz.prog u =
    .ok (.slice (some ⟨u.heap.size, 0, none⟩) n n) (u.alloc (.cells (madeCells #[.slice none 0 0] n) 60)) := by
  obtain ⟨i0, hi, hz0, hz1, hz2⟩ := info_parts Tryz.infoSl
  have h := run_make (P := Tryz.prog) u 44 60 i0 (.slice none 0 0) Tryz.underlying44 hi hz0 .i64 .i64 (n : Int) (n : Int) (by omega) (by omega) (by rw [hz2]; omega) (by omega)
  simpa [hz1, Value.cells] using h
theorem recs_made (n : Nat) (hn : n ≤ 5000000000000) (w : World) : RecsO (w.alloc (.cells (madeCells #[.slice none 0 0] n) 60)) w.heap.size (.slice (some ⟨w.heap.size, 0, none⟩) n n) (List.replicate n []) (List.replicate n (.slice none 0 0)) := by
  refine ⟨⟨by simp, .inr ⟨w.heap.size, n, _, by simp, Nat.le_refl _, heap_alloc_new _ _, by simp, by unfold maxLen; omega, by simp [size_madeCells], ?_⟩⟩, by simp, fun i h1 h2 => ?_, ?_⟩
  · rw [toList_madeCells_one, List.take_replicate]
    simp
  · rw [List.getElem_replicate, List.getElem_replicate]
    exact Own.nil _ _ _
  · rw [List.filterMap_replicate_of_none (by rfl)]
    exact List.nodup_nil

/-- append(s, x...) where s is an own row of bytes, and x any slice of bytes. -/
theorem wpList_bytes_any {ops : Array Oper} {rest : List Oper} {o : Oper} {a : Act} {Q : Exit → Act → World → Prop} (w : World) (hgd : o.guard = none) (s x : Operand)
    (ho : o.op = .call { callee := .builtin .append, args := #[s, x], argTypes := #[60, 60] }) (base base' : Nat) (v xv : Value) (bs cs : List UInt8) (hs : a.eval s = v)
    (hx : a.eval x = xv) (how : Own w 5 base v bs) (hsx : Sl base' w xv cs) (hbase : base ≤ w.heap.size) (hl : bs.length + cs.length ≤ 200000000000000)
    (hK : ∀ v' w', Own w' 5 base v' (bs ++ cs) → w.grownBy w' v.ownBlock → wpList Tryz.prog ops Q rest (a.put o.dst v') w') :
    wpList Tryz.prog ops Q (o :: rest) a w := by
  obtain ⟨ao, cap, rfl, hc, hn, hxx⟩ := hsx
  cases ao with
  | none =>
    obtain rfl := hn rfl
    have h0 : cs = [] := List.eq_nil_of_length_eq_zero (by omega)
    subst h0
    obtain ⟨i0, hi, hz0, hz1, hz2⟩ := info_parts Tryz.infoU8
    refine wpList_append_own_none hgd s x 60 ho base 5 i0 1 Tryz.underlying60 hi v bs.length (Bv bs) hs how hx (hK v w (by rw [List.append_nil]; exact how) (World.grownBy.refl w _))
  | some ad => exact wpList_bytes w hgd s x ho base base' v bs cs hs ad cap hx how ⟨_, cap, rfl, hc, hn, hxx⟩ hbase hl hK
end Go.Proofs.YtkfjkfpodkbkaaaGreatDoor

set_option linter.unusedVariables false
set_option linter.unusedSimpArgs false
namespace Go.Proofs.YtkfjkfpodkbkaaaGreatDoor
open Go Go.RowKit

/-- All the records' bytes. -/
def totN (L : List Rec) : Nat := (L.map List.length).sum
theorem totN_take (L : List Rec) (k : Nat) (h : k < L.length) : totN (L.take (k + 1)) = totN (L.take k) + L[k].length := by
  unfold totN
  rw [List.take_succ_eq_append_getElem h, List.map_append, List.sum_append]
  simp
theorem totN_le (L : List Rec) (k : Nat) : totN (L.take k) ≤ totN L := by
  have := congrArg totN (List.take_append_drop k L)
  unfold totN at this ⊢
  rw [List.map_append, List.sum_append] at this
  omega
theorem totN_mem {L : List Rec} {r : Rec} (h : r ∈ L) : r.length ≤ totN L := by
  obtain ⟨i, hi, rfl⟩ := List.getElem_of_mem h
  have h1 := totN_take L i hi
  have h2 := totN_le L (i + 1)
  omega
theorem bodyB_tot (L : List Rec) : (bodyB L).length = 2 * L.length + totN L := by
  induction L with
  | nil => rfl
  | cons r L ih =>
    rw [bodyB_cons_length, ih, List.length_cons]
    simp only [totN, List.map_cons, List.sum_cons]
    omega


/-- Too many records or bytes. -/
abbrev Many (L : List Rec) : Prop := 1048576 < L.length ∨ 16777216 < totN L


theorem drew_up {w w' : World} (h : ∃ n, w' = w.drewN n) : Up w w' := by
  obtain ⟨n, rfl⟩ := h
  exact up_drewN _ _

theorem Rw.at {w : World} {v : Value} {L : List (List UInt8)} (h : Rw w v L) (k : Nat) (hk : k < L.length) : ∃ b o cap vi, v = .slice (some ⟨b, o, none⟩) L.length cap ∧ (∀ u, Up w u → u.cell? ⟨b, o + k, none⟩ = some vi ∧ Sl 0 u vi L[k]) := by
  obtain ⟨ao, cap, rfl, hc, hx⟩ := h
  obtain ⟨b, o, rfl, hat⟩ := hx (by rintro rfl; simp at hk)
  obtain ⟨vi, h1, h2⟩ := hat k hk
  exact ⟨b, o, cap, vi, rfl, fun u hu => ⟨by rw [hu.cell (World.block_lt_of_cell? w _ h1)]; exact h1, h2.up hu⟩⟩


/-- While a row is copied. -/
structure CopyR (w wr : World) (g n : Nat) (L : List Rec) (k : Nat) (vs : List Value) : Prop where
  recs : RecsO wr w.heap.size (.slice (some ⟨g, 0, none⟩) n n) (L.take k ++ List.replicate (n - k) []) vs
  up : Up w wr
  lo : w.heap.size ≤ g
theorem copy_next (L : List Rec) (n k : Nat) (hn : L.length = n) (hk : k < L.length) : (L.take k ++ List.replicate (n - k) []).set k L[k] = L.take (k + 1) ++ List.replicate (n - (k + 1)) [] := by
  rw [List.set_append_right _ _ (by simp; omega), List.length_take, Nat.min_eq_left (Nat.le_of_lt hk), Nat.sub_self, show n - k = (n - (k + 1)) + 1 by omega, List.replicate_succ, List.set_cons_zero, List.take_succ_eq_append_getElem hk, List.append_assoc]
  rfl

end Go.Proofs.YtkfjkfpodkbkaaaGreatDoor

set_option linter.unusedVariables false
set_option linter.unusedSimpArgs false
namespace Go.Proofs.YtkfjkfpodkbkaaaGreatDoor
open Go Go.RowKit

def abcB : List UInt8 := blkB 1 [[97, 98, 99]]
theorem abc_fit : FitB 1 [[97, 98, 99]] := ⟨by simp, by omega, by decide, by decide, by decide⟩
theorem abc_length : abcB.length = 512 := blkB_length abc_fit.room
theorem abc_at : abcB[0]? = some 84 ∧ abcB[14]? = some 69 ∧ abcB[17]? = some 195 ∧ abcB[20]? = some 97 := by decide +kernel
theorem abc_dec : decB abcB = .ok (1, [[97, 98, 99]]) := dec_blk abc_fit
theorem badOf_nil : badOf [] = fun _ => false := by funext i; simp [badOf]
/-- What is packed is scanned whole, by Scan's own bound. -/
theorem scan_packed {first : Nat} {rs : List Rec} (h : ∀ r ∈ rs, r.length ≤ 200) (h1 : 1 ≤ first) (h2 : first + rs.length ≤ 2 ^ 62 + 1) :
    scanB (badOf []) ((packB first rs).length / 512) (packB first rs) 0 first = (rs, (packB first rs).length / 512) := by
  rw [badOf_nil, scan_any _ _ (packB first rs).length _ _ _ (Nat.le_refl _) (by omega), scan_pack h h1 h2]
theorem ab_length : (packB 7 [[97], [98]]).length = 512 := by decide +kernel
theorem ab_scan : scanB (badOf []) 1 (packB 7 [[97], [98]]) 0 7 = ([[97], [98]], 1) := by
  have h := scan_packed (first := 7) (rs := [[97], [98]]) (by decide) (by omega) (by decide)
  rwa [ab_length] at h

theorem Own.some {w : World} {base : Nat} {v : Value} {bs : List UInt8} (h : Own w 5 base v bs) (hne : bs ≠ []) : ∃ g cap, v = .slice (some ⟨g, 0, none⟩) bs.length cap ∧ ∀ i c, bs[i]? = some c → w.cell? ⟨g, i, none⟩ = some (.int .u8 (c.toNat : Int)) := by
  have h' := h
  obtain ⟨hl, ⟨rfl, hn⟩ | ⟨g, cap, cur, rfl, hb, hg, hnc, hcm, hcs, ht⟩⟩ := h
  · exact absurd (List.eq_nil_of_length_eq_zero hn) hne
  · refine ⟨g, cap, rfl, fun i c hc => ?_⟩
    obtain ⟨hi, rfl⟩ := List.getElem?_eq_some_iff.1 hc
    have := h'.at i hi
    rwa [Nat.zero_add] at this

end Go.Proofs.YtkfjkfpodkbkaaaGreatDoor

set_option linter.unusedVariables false
namespace Go.Proofs.YtkfjkfpodkbkaaaGreatDoor
open Go Go.RowKit Go.ChangeShapes Go.WideShapes


theorem halfV_getD (r : Nat) (hr : r < 16) : ((halfV r).toNat : Int) = (halfT.getD r 0 : Nat) := by
  have h : ∀ r : Fin 16, (halfV r.val).toNat = halfT.getD r.val 0 := by decide +kernel
  rw [h ⟨r, hr⟩]

theorem table_of_laid {W : World} (h : laidMetH Tryz.prog [("turnstile/crc.halves", Rows.laid_turnstile_crc_halves)] W) : Tb W := by
  intro r hr
  rw [MakeChecks.laidMetH_plain _ _ _ (by kernel_rfl)] at h
  obtain ⟨ps, ⟨g, t, cs, fuel, p, q, hg, ht, hv, hd, _, _⟩, _, _⟩ := h
  obtain rfl := Option.some.inj ((show Tryz.prog.globalNamed "turnstile/crc.halves" = some 18 by kernel_rfl).symm.trans hg)
  obtain rfl := Option.some.inj ((show (Tryz.prog.globals[18]?).map (·.type) = some 262 by kernel_rfl).symm.trans ht)
  obtain ⟨xs, m, _, ex, _, hl, hel⟩ := DataW.trod_array Tryz.underlying262 hd
  have c5 : Tryz.prog.cellsOf 156 = 1 := by kernel_rfl
  have hE := hel r hr
  rw [c5, Nat.mul_one, List.getElem?_eq_getElem (by omega)] at hE
  obtain ⟨z, e1, e2, _⟩ := DataW.trod_int Tryz.underlying156 hE
  have hlen : halfT.length = 16 := rfl
  have e3 : (xs.map (·.1)) = halfT.map fun n => .lit (.int .u32 (n : Int)) := (DataW.agg.inj (Prod.mk.inj ex).1).symm
  have e4 : (xs.map (·.1))[r]? = (halfT.map fun (n : Nat) => (DataW.lit (.int .u32 (n : Int)) : DataW Unit))[r]? := by rw [e3]
  rw [List.getElem?_map, List.getElem?_map, List.getElem?_eq_getElem (by omega : r < xs.length), List.getElem?_eq_getElem (by omega : r < halfT.length), e2] at e4
  have hz : z = (halfT.getD r 0 : Nat) := by
    simp only [Option.map_some, Option.some.injEq, DataW.lit.injEq, Lit.int.injEq, true_and] at e4
    rw [e4, List.getD, List.getElem?_eq_getElem (by omega : r < halfT.length)]; rfl
  rw [World.var?_cell hg hv r, U, halfV_getD r hr, ← hz]
  have : cs.toList[r]? = some (.int .u32 z) := by
    have h0 : ((cs.toList.drop r).take 1)[0]? = some (.int .u32 z) := by rw [e1]; rfl
    simpa using h0
  simpa using this
end Go.Proofs.YtkfjkfpodkbkaaaGreatDoor

set_option linter.unusedVariables false
set_option linter.unusedSimpArgs false
namespace Go.Proofs.YtkfjkfpodkbkaaaGreatDoor
open Go Go.RowKit Go.ChangeShapes Go.WideShapes

structure Kn (w : World) (ad : Nat → Addr) : Prop where
  tb : Tb w
  er : ErrSet blkErrs errTxt w ad
theorem Kn.up {w w' : World} {ad : Nat → Addr} (h : Kn w ad) (u : Up w w') : Kn w' ad := ⟨h.tb.up u, h.er.up u⟩
theorem Kn.gl {w : World} {ad : Nat → Addr} (h : Kn w ad) : GlS w ad := fun g hg => (h.er g hg).1
theorem blk_sub : ∀ g ∈ blkErrs, g ∈ allErrs := by decide
theorem Kn.ne {w : World} {ad : Nat → Addr} (h : Kn w ad) (g k : Nat) (hg : g ∈ blkErrs) (hk : k ∈ blkErrs) (hne : g ≠ k) : (binOp .eql 40 (E (ad g)) (E (ad k))).run Tryz.prog w = .ok (.bool false) w :=
  eq_other (h.er g hg).2 (h.er k hk).2 (errTxt_unlike g (blk_sub g hg) k (blk_sub k hk) hne)
theorem Kn.cell {w : World} {ad : Nat → Addr} (h : Kn w ad) (g : Nat) (hg : g ∈ blkErrs) : w.cell? ⟨g, 0, none⟩ = some (E (ad g)) := (h.er g hg).1.cell

theorem kn_of {l : List (String × DataW Unit)} {W : World} (h : laidMetH Tryz.prog l W) (hp : (l.all fun x => x.2.handleName?.isNone) = true)
    (hT : (l.filter fun x => x.1 == "turnstile/crc.halves") = [("turnstile/crc.halves", Rows.laid_turnstile_crc_halves)])
    (hArg : (l.filter fun x => x.1 == "turnstile/api.ErrArg") = [("turnstile/api.ErrArg", .iface "*errors.errorString" (.ptr (.agg [.lit (.string (errTxt 2))])))])
    (hShort : (l.filter fun x => x.1 == "turnstile/api.ErrShort") = [("turnstile/api.ErrShort", .iface "*errors.errorString" (.ptr (.agg [.lit (.string (errTxt 9))])))])
    (hForm : (l.filter fun x => x.1 == "turnstile/api.ErrForm") = [("turnstile/api.ErrForm", .iface "*errors.errorString" (.ptr (.agg [.lit (.string (errTxt 10))])))])
    (hLong : (l.filter fun x => x.1 == "turnstile/api.ErrLong") = [("turnstile/api.ErrLong", .iface "*errors.errorString" (.ptr (.agg [.lit (.string (errTxt 3))])))])
    (hSum : (l.filter fun x => x.1 == "turnstile/api.ErrSum") = [("turnstile/api.ErrSum", .iface "*errors.errorString" (.ptr (.agg [.lit (.string (errTxt 11))])))])
    : ∃ ad, Kn W ad := by
  have ht := h.filter (fun x => x.1 == "turnstile/crc.halves")
  rw [hT] at ht
  obtain ⟨aArg, kArg⟩ := gl_of_laid h hArg hp Tryz.gArg Tryz.gtArg
  obtain ⟨aShort, kShort⟩ := gl_of_laid h hShort hp Tryz.gShort Tryz.gtShort
  obtain ⟨aForm, kForm⟩ := gl_of_laid h hForm hp Tryz.gForm Tryz.gtForm
  obtain ⟨aLong, kLong⟩ := gl_of_laid h hLong hp Tryz.gLong Tryz.gtLong
  obtain ⟨aSum, kSum⟩ := gl_of_laid h hSum hp Tryz.gSum Tryz.gtSum
  refine ⟨fun g =>
    if g = 2 then aArg else
    if g = 9 then aShort else
    if g = 10 then aForm else
    if g = 3 then aLong else
    aSum, table_of_laid ht, fun g hg => ?_⟩
  simp only [blkErrs, List.mem_cons, List.not_mem_nil, or_false] at hg
  rcases hg with rfl | rfl | rfl | rfl | rfl
  · exact kArg
  · exact kLong
  · exact kShort
  · exact kForm
  · exact kSum
theorem kn_all {w : World} {ad : Nat → Addr} (h : ErrSet allErrs errTxt w ad) (t : Tb w) : Kn w ad := ⟨t, fun g hg => h g (blk_sub g hg)⟩

theorem decB_long {b : List UInt8} {e : DecE} (h : decB b = .error e) : (e = .short ↔ b.length < 512) := by
  by_cases h1 : b.length < 512
  · rw [decB, if_pos h1] at h
    cases h
    exact ⟨fun _ => h1, fun _ => rfl⟩
  · refine ⟨fun he => ?_, fun h2 => absurd h2 h1⟩
    subst he
    rw [decB, if_neg h1] at h
    split at h
    · cases h
    · split at h
      · cases h
      · split at h
        · cases h
        · split at h <;> cases h

end Go.Proofs.YtkfjkfpodkbkaaaGreatDoor

set_option linter.unusedVariables false
set_option linter.unusedSimpArgs false
namespace Go.Proofs.YtkfjkfpodkbkaaaGreatDoor
open Go Go.RowKit

/-- What a segment's laws know of memory: the table of half bytes, the errors, one number of bits' table. -/
structure Ks (w : World) (ad : Nat → Addr) : Prop where
  tb : Tb w
  er : ErrSet segErrs errTxt w ad
  tz : w.cell? ⟨17, 15, none⟩ = some (.int .u8 4)
theorem Ks.up {w w' : World} {ad : Nat → Addr} (h : Ks w ad) (u : Up w w') : Ks w' ad := ⟨h.tb.up u, h.er.up u, by rw [u.cell (World.block_lt_of_cell? w _ h.tz)]; exact h.tz⟩
theorem blk_seg : ∀ g ∈ blkErrs, g ∈ segErrs := by decide
theorem Ks.gl {w : World} {ad : Nat → Addr} (h : Ks w ad) : GlS w ad := fun g hg => (h.er g (blk_seg g hg)).1

/-- A segment's struct. -/
abbrev scells (db : Nat) (nm : Nm) (next blocks : Nat) (whole sick : Bool) : Array Value := #[.pointer (some ⟨db, 0, none⟩), Sv nm, .int .u64 (next : Int), .int .i64 (blocks : Int), .bool whole, .bool sick]

theorem isNumber_any (x : Nat) (w : World) (h1 : 1 ≤ x) (h2 : x ≤ 4611686018427387904) : Calls Tryz.prog 35 #[.int .u64 (x : Int)] w fun e w' => e = .returned (.bool true) ∧ w' = w := by
  have e1 : 0 < x := h1
  have e2 : (x : Int) ≤ 4611686018427387904 := by omega
  clear h1 h2
  go_enter Tryz.func35, Tryz.ntmps35
  go_wp2
  go_ret
  exact ⟨rfl, rfl⟩
theorem refusal_any (db x : Nat) (w : World) (h1 : 1 ≤ x) (h2 : x ≤ 4611686018427387904) : Calls Tryz.prog 40 #[.pointer (some ⟨db, 0, none⟩), .int .u64 (x : Int)] w fun e w' => e = .returned .nilIface ∧ w' = w := by
  have hi := isNumber_any x w h1 h2
  clear h1 h2
  go_enter Tryz.func40, Tryz.ntmps40
  go_wp2_with fail
  refine hi.mono ?_
  rintro e w1 ⟨rfl, hw⟩
  obtain rfl : w = w1 := hw.symm
  clear hi
  go_wp2
  go_ret
  exact ⟨rfl, rfl⟩
theorem Next_any (sb db : Nat) (nm : Nm) (next blocks : Nat) (whole sick : Bool) (w : World) (h : Box w sb (scells db nm next blocks whole sick)) : Calls Tryz.prog 17 #[.pointer (some ⟨sb, 0, none⟩)] w fun e w' => e = .returned (.int .u64 (next : Int)) ∧ w' = w := by
  have c : w.cell? ⟨sb, 2, none⟩ = some (.int .u64 (next : Int)) := h.cell 2
  go_enter Tryz.func17, Tryz.ntmps17
  go_wp2
  go_ret
  exact ⟨rfl, rfl⟩
theorem Blocks_any (sb db : Nat) (nm : Nm) (next blocks : Nat) (whole sick : Bool) (w : World) (h : Box w sb (scells db nm next blocks whole sick)) : Calls Tryz.prog 26 #[.pointer (some ⟨sb, 0, none⟩)] w fun e w' => e = .returned (.int .i64 (blocks : Int)) ∧ w' = w := by
  have c : w.cell? ⟨sb, 3, none⟩ = some (.int .i64 (blocks : Int)) := h.cell 3
  go_enter Tryz.func26, Tryz.ntmps26
  go_wp2
  go_ret
  exact ⟨rfl, rfl⟩
theorem Whole_any (sb db : Nat) (nm : Nm) (next blocks : Nat) (whole sick : Bool) (w : World) (h : Box w sb (scells db nm next blocks whole sick)) : Calls Tryz.prog 27 #[.pointer (some ⟨sb, 0, none⟩)] w fun e w' => e = .returned (.bool whole) ∧ w' = w := by
  have c : w.cell? ⟨sb, 4, none⟩ = some (.bool whole) := h.cell 4
  go_enter Tryz.func27, Tryz.ntmps27
  go_wp2
  go_ret
  exact ⟨rfl, rfl⟩
theorem sready_ok (sb db : Nat) (nm : Nm) (next blocks : Nat) (whole : Bool) (w : World) (h : Box w sb (scells db nm next blocks whole false)) : Calls Tryz.prog 45 #[.pointer (some ⟨sb, 0, none⟩)] w fun e w' => e = .returned .nilIface ∧ w' = w := by
  have c : w.cell? ⟨sb, 5, none⟩ = some (.bool false) := h.cell 5
  go_enter Tryz.func45, Tryz.ntmps45
  go_wp2
  go_ret
  exact ⟨rfl, rfl⟩
theorem sready_sick (sb db : Nat) (nm : Nm) (next blocks : Nat) (whole : Bool) (w : World) (a : Addr) (h : Box w sb (scells db nm next blocks whole true)) (ha : w.cell? ⟨4, 0, none⟩ = some (E a)) : Calls Tryz.prog 45 #[.pointer (some ⟨sb, 0, none⟩)] w fun e w' => e = .returned (E a) ∧ w' = w := by
  have c : w.cell? ⟨sb, 5, none⟩ = some (.bool true) := h.cell 5
  go_enter Tryz.func45, Tryz.ntmps45
  go_wp2
  go_ret
  exact ⟨rfl, rfl⟩
theorem meet_nil (sb : Nat) (w : World) : Calls Tryz.prog 46 #[.pointer (some ⟨sb, 0, none⟩), .nilIface] w fun e w' => e = .returned .nilIface ∧ w' = w := by
  go_enter Tryz.func46, Tryz.ntmps46
  go_wp2
  go_ret
  exact ⟨rfl, rfl⟩
theorem meet_err (sb db : Nat) (nm : Nm) (next blocks : Nat) (whole sick : Bool) (a : Addr) (w : World) (h : Box w sb (scells db nm next blocks whole sick)) : Calls Tryz.prog 46 #[.pointer (some ⟨sb, 0, none⟩), E a] w fun e w' => e = .returned (E a) ∧ Box w' sb (scells db nm next blocks whole true) ∧ Touch w w' [sb] := by
  have c : w.cell? ⟨sb, 5, none⟩ = some (.bool sick) := h.cell 5
  have f : w.frozen? ⟨sb, 5, none⟩ = false := h.frozen 5
  go_enter Tryz.func46, Tryz.ntmps46
  go_wp2
  go_ret
  exact ⟨rfl, h.set 5 _, (Touch.refl _ _).setCell (.inl (by simp)) _ _⟩
theorem sizeOf_any (n : Nat) (w : World) (h : n ≤ 1000000000) : Calls Tryz.prog 58 #[.int .i64 (n : Int)] w fun e w' => e = .returned (.int .i64 ((512 * n : Nat) : Int)) ∧ w' = w := by
  have e : IntKind.i64.wrap ((n : Int) * 512) = ((512 * n : Nat) : Int) := by rw [IntKind.wrap_i64]; omega
  have e2 : (n : Int) ≤ 1000000000 := by omega
  clear h
  go_enter Tryz.func58, Tryz.ntmps58
  go_wp2
  go_ret
  refine ⟨?_, rfl⟩
  refine congrArg (fun z => Ending.returned (Value.int .i64 z)) (?_ : _ = _)
  omega

set_option maxRecDepth 20000 in
set_option maxHeartbeats 800000 in
/-- Create on a new disk. -/
theorem SegCreate_new (W00 : World) (db : Nat) (L : List Nat) (x : Nat) (w : World) (ad : Nat → Addr) (hk : Ks W00 ad) (hU : Up W00 w) (h : DiskAt w W00.heap.size db Dsk.new L) (h1 : 1 ≤ x) (h2 : x ≤ 4611686018427387904) :
    Calls Tryz.prog 15 #[.pointer (some ⟨db, 0, none⟩), .int .u64 (x : Int)] w fun e w' => ∃ sb L', e = .returned (.tuple #[.pointer (some ⟨sb, 0, none⟩), .nilIface]) ∧ Box w' sb (scells db (nameB x) x 0 true false) ∧
      DiskAt w' W00.heap.size db (sgD (nameB x) (Fil.made ⟨[], []⟩) 2 0 (fun _ => none) 0 3) L' ∧ sb ∉ L' ∧ W00.heap.size ≤ sb ∧ Up W00 w' := by
  have hlen := nameB_length x (by omega)
  obtain ⟨c1, c2, c3, c4, c5, c6, c7⟩ := new_create (nameB x) (nameB_ne x) (by omega)
  have hge : ∀ (D : Dsk) (L : List Nat) (u : World), DiskAt u W00.heap.size db D L → ∀ k ∈ L, W00.heap.size ≤ k := by
    rintro D L u ⟨_, _, _, _, _, q, rfl⟩; exact q.ge
  have hre := refusal_any db x w h1 h2
  have hnm := Name_any x w (by omega) (hk.up hU).tz
  have hcr : ∀ u, Up w u → Calls Tryz.prog 41 #[.pointer (some ⟨db, 0, none⟩), Sv (nameB x)] u fun e w' => e = .returned .nilIface ∧ ∃ L', DiskAt w' W00.heap.size db (Dsk.new.create (nameB x)) L' ∧ Up W00 w' := fun u uu => by
    obtain ⟨bs, bf, vch, mp, fl, q, rfl⟩ := h
    refine (DiskCreate_any W00 db Dsk.new _ u ad (nameB x) ⟨_, _, _, _, _, q.up uu, rfl⟩ (hU.trans uu) hk.er rfl Dsk.new_ok (by simp [Dsk.new]) rfl (nameB_ne x) (by omega)).mono ?_
    rintro e w1 ⟨rfl, L', d1, d2, d3⟩
    rw [c2]
    exact ⟨rfl, L', d1, Touch.up_of (hU.trans uu) d3 q.ge⟩
  have hsn : ∀ u L, DiskAt u W00.heap.size db (Dsk.new.create (nameB x)) L → Up W00 u → Calls Tryz.prog 42 #[.pointer (some ⟨db, 0, none⟩)] u fun e w' => e = .returned .nilIface ∧ ∃ L', DiskAt w' W00.heap.size db (sgD (nameB x) (Fil.made ⟨[], []⟩) 2 0 (fun _ => none) 0 3) L' ∧ Up W00 w' := fun u L hd uu => by
    refine (DiskNames_any W00 db _ L u ad ⟨[], nameB x, some 0⟩ 0 hd uu hk.er c5 c6 (by rw [c7]; omega) c4 (nameB_ne x) rfl (by unfold maxLen; simp) (by show (nameB x).length ≤ maxLen; unfold maxLen; omega)).mono ?_
    rintro e w1 ⟨rfl, L', d1, d2, d3⟩
    rw [c3]
    rw [c1] at d1
    exact ⟨rfl, L', d1, Touch.up_of uu d3 (hge _ _ _ hd)⟩
  have HC : Hid (∀ u, Up w u → Calls Tryz.prog 41 #[.pointer (some ⟨db, 0, none⟩), Sv (nameB x)] u fun e w' => e = .returned .nilIface ∧ ∃ L', DiskAt w' W00.heap.size db (Dsk.new.create (nameB x)) L' ∧ Up W00 w') := hcr
  have HS : Hid (∀ u L, DiskAt u W00.heap.size db (Dsk.new.create (nameB x)) L → Up W00 u → Calls Tryz.prog 42 #[.pointer (some ⟨db, 0, none⟩)] u fun e w' => e = .returned .nilIface ∧ ∃ L', DiskAt w' W00.heap.size db (sgD (nameB x) (Fil.made ⟨[], []⟩) 2 0 (fun _ => none) 0 3) L' ∧ Up W00 w') := hsn
  have HG : Hid (∀ (D : Dsk) (L : List Nat) (u : World), DiskAt u W00.heap.size db D L → ∀ k ∈ L, k < u.heap.size) := by
    rintro D L u ⟨_, _, _, _, _, q, rfl⟩; exact q.lt
  clear hlen c1 c2 c3 c4 c5 c6 c7 hge hk hU h h1 h2 hcr hsn
  go_enter Tryz.func15, Tryz.ntmps15
  go_wp2_with fail
  refine hre.mono ?_
  rintro e w1 ⟨rfl, hw⟩
  obtain rfl : w = w1 := hw.symm
  clear hre
  go_wp2_with fail
  refine hnm.mono ?_
  rintro e w1 ⟨rfl, u1⟩
  clear hnm
  have hc1 := HC.out w1 u1
  go_wp2_with fail
  refine hc1.mono ?_
  rintro e w2 ⟨rfl, L2, d2, u2⟩
  clear hc1
  have hs2 := HS.out w2 L2 d2 u2
  clear d2 u2
  go_wp2_with fail
  refine hs2.mono ?_
  rintro e w3 ⟨rfl, L3, d3, u3⟩
  clear hs2
  have H3 : Hid (DiskAt w3 W00.heap.size db (sgD (nameB x) (Fil.made ⟨[], []⟩) 2 0 (fun _ => none) 0 3) L3 ∧ Up W00 w3) := ⟨d3, u3⟩
  clear d3 u3
  go_wp2
  go_ret2
  obtain ⟨d3, u3⟩ := H3.out
  refine ⟨_, L3, rfl, Box.new _ _ _, ?_, fun hm => ?_, u3.size, u3.trans (Up.alloc _ _)⟩
  · obtain ⟨bs, bf, vch, mp, fl, q, rfl⟩ := d3
    exact ⟨_, _, _, _, _, q.up (Up.alloc _ _), rfl⟩
  · have := HG.out _ _ _ d3 _ hm
    omega
end Go.Proofs.YtkfjkfpodkbkaaaGreatDoor
