/- Merged: DkIs, DkOp1, RefPut, RefRd, RefRd2, RefRd3, RefNum. -/
import Derived.Test.YtkfjkfpodkbkaaaGreatDoorMg16
import Derived.LaidEql
import Derived.Stop.Asserts
import Derived.RowKitTokens
import Derived.BigQuiet
import Derived.Deep.QuietTactic
import Derived.Deep.DeepCutAuto
import Derived.Test.YtkfjkfpodkbkaaaGreatDoorMg13
import Derived.Test.YtkfjkfpodkbkaaaGreatDoorMg15
set_option linter.unusedVariables false
namespace Go.Proofs.YtkfjkfpodkbkaaaGreatDoor
open Go Go.RowKit Go.Extern.Stop Go.Stop Go.Extern

theorem Tryz.isTypeOf (v : Value) (w : World) : (Extern.ReflectliteType.typeOf #[.iface 243 v]).run Tryz.prog w = .ok (.iface 234 (.agg #[.pointer (some ⟨19, 243, none⟩)])) w := by kernel_rfl
theorem Tryz.isComparable (w : World) : ((Extern.ReflectliteType.method fun t => do Extern.Rtype.noPackHeld "Comparable" t; (fun a => Value.bool a.comparable) <$> typeInfo t) #[.agg #[.pointer (some ⟨19, 243, none⟩)]]).run Tryz.prog w = .ok (.bool true) w := by kernel_rfl
theorem Tryz.isMethodComparable (v : Value) (w : World) : (Go.method 391 234 v "Comparable").run Tryz.prog w = .ok (232, v) w := by kernel_rfl
theorem Tryz.isComp : (Tryz.prog.info? 243).map (·.comparable) = some true := by kernel_rfl
theorem Tryz.isSize : (Tryz.prog.info? 245).map (·.size) = some 1 := by kernel_rfl
theorem Tryz.noIsE (v : Value) (xT : TypeId) (w : World) : (Instr.typeAssert (.iface 243 v) xT 236 true).run Tryz.prog w = .ok (.tuple #[.nilIface, .bool false]) w := run_typeAssert_lacksB Tryz.underlying236 (by kernel_rfl) (by kernel_rfl) v xT w
theorem Tryz.noUnwrapE (v : Value) (xT : TypeId) (w : World) : (Instr.typeAssert (.iface 243 v) xT 239 true).run Tryz.prog w = .ok (.tuple #[.nilIface, .bool false]) w := run_typeAssert_lacksB Tryz.underlying239 (by kernel_rfl) (by kernel_rfl) v xT w
theorem Tryz.noUnwrapsE (v : Value) (xT : TypeId) (w : World) : (Instr.typeAssert (.iface 243 v) xT 240 true).run Tryz.prog w = .ok (.tuple #[.nilIface, .bool false]) w := run_typeAssert_lacksB Tryz.underlying240 (by kernel_rfl) (by kernel_rfl) v xT w

/-- errors.Is(nil, x). -/
theorem isErr_nil (b : Addr) (w : World) : Calls Tryz.prog 114 #[.nilIface, E b] w fun e w' => e = .returned (.bool false) ∧ w' = w := by
  have hn := run_eql_iface_nil_left (P := Tryz.prog) w 243 (.pointer (some b)) Tryz.underlying40
  go_enter Tryz.func114, Tryz.ntmps114
  go_wp2
  go_ret
  exact ⟨rfl, rfl⟩

set_option maxRecDepth 20000 in
set_option maxHeartbeats 800000 in
/-- errors.Is(x, x). -/
theorem isErr_same (a : Addr) (w : World) : Calls Tryz.prog 114 #[E a, E a] w fun e w' => e = .returned (.bool true) ∧ w' = w := by
  obtain ⟨i, hi, hcmp⟩ := Option.map_eq_some_iff.1 Tryz.isComp
  obtain ⟨j, hj, hjs⟩ := Option.map_eq_some_iff.1 Tryz.isSize
  have h8 := @run_callFunc_extern Tryz.prog 148 _ Extern.ReflectliteType.typeOf Tryz.func148 (by kernel_rfl) (by kernel_rfl) (by kernel_rfl) (by kernel_rfl)
  have h32 := @run_callFunc_extern Tryz.prog 232 _ (Extern.ReflectliteType.method fun t => do Extern.Rtype.noPackHeld "Comparable" t; pure (.bool (← typeInfo t).comparable)) Tryz.func232 (by kernel_rfl) (by kernel_rfl) (by kernel_rfl) (by kernel_rfl)
  have tT := Tryz.isTypeOf
  have cT := Tryz.isComparable
  have mR := Tryz.isMethodComparable
  have heq := run_eql_iface_ptr_same (P := Tryz.prog) w a Tryz.underlying40 Tryz.underlying243 hi hcmp hj
  go_enter Tryz.func114, Tryz.ntmps114
  go_wp2
  refine wp_loop_rounds 1 ?_
  rw [rounds_succ]
  go_wp2
  go_ret
  exact ⟨rfl, rfl⟩

set_option maxRecDepth 20000 in
set_option maxHeartbeats 800000 in
/-- errors.Is(x, y), two errors of unlike texts. -/
theorem isErr_other {a b : Addr} {w : World} {s t : List UInt8} (ha : ErrAt w a s) (hb : ErrAt w b t) (h : s ≠ t) : Calls Tryz.prog 114 #[E a, E b] w fun e w' => e = .returned (.bool false) ∧ w' = w := by
  obtain ⟨i, hi, hcmp⟩ := Option.map_eq_some_iff.1 Tryz.isComp
  obtain ⟨j, hj, hjs⟩ := Option.map_eq_some_iff.1 Tryz.isSize
  have h8 := @run_callFunc_extern Tryz.prog 148 _ Extern.ReflectliteType.typeOf Tryz.func148 (by kernel_rfl) (by kernel_rfl) (by kernel_rfl) (by kernel_rfl)
  have h32 := @run_callFunc_extern Tryz.prog 232 _ (Extern.ReflectliteType.method fun t => do Extern.Rtype.noPackHeld "Comparable" t; pure (.bool (← typeInfo t).comparable)) Tryz.func232 (by kernel_rfl) (by kernel_rfl) (by kernel_rfl) (by kernel_rfl)
  have tT := Tryz.isTypeOf
  have cT := Tryz.isComparable
  have mR := Tryz.isMethodComparable
  have nE := Tryz.noIsE
  have uE := Tryz.noUnwrapE
  have vE := Tryz.noUnwrapsE
  have heq := eq_other ha hb h
  go_enter Tryz.func114, Tryz.ntmps114
  go_wp2
  refine wp_loop_rounds 1 ?_
  rw [rounds_succ]
  go_wp2
  go_ret
  exact ⟨rfl, rfl⟩

end Go.Proofs.YtkfjkfpodkbkaaaGreatDoor

set_option linter.unusedVariables false
set_option linter.unusedSimpArgs false
namespace Go.Proofs.YtkfjkfpodkbkaaaGreatDoor
open Go Go.RowKit Go.Maps

theorem ready_up (db : Nat) (w : World) (h5 : w.cell? ⟨db, 5, none⟩ = some (.bool false)) : Calls Tryz.prog 43 #[.pointer (some ⟨db, 0, none⟩)] w fun e w' => e = .returned .nilIface ∧ w' = w := by
  go_enter Tryz.func43, Tryz.ntmps43
  go_wp2
  go_ret
  exact ⟨rfl, rfl⟩
theorem ready_down (db : Nat) (w : World) (a : Addr) (h5 : w.cell? ⟨db, 5, none⟩ = some (.bool true)) (ha : w.cell? ⟨1, 0, none⟩ = some (E a)) : Calls Tryz.prog 43 #[.pointer (some ⟨db, 0, none⟩)] w fun e w' => e = .returned (E a) ∧ w' = w := by
  go_enter Tryz.func43, Tryz.ntmps43
  go_wp2
  go_ret
  exact ⟨rfl, rfl⟩

/-- A name that leads to a file. -/
theorem missing_not (db bs n : Nat) (x : Nm) (m : Nm → Option Nat) (k : Nat) (w : World) (h0 : w.cell? ⟨db, 0, none⟩ = some (.map (some bs))) (hm : MapIs w bs n m) (hk : m x = some k) (hl : x.length ≤ maxLen) :
    Calls Tryz.prog 63 #[.pointer (some ⟨db, 0, none⟩), Sv x] w fun e w' => e = .returned .nilIface ∧ w' = w := by
  have hlook := hm.look hl
  rw [hk] at hlook
  go_enter Tryz.func63, Tryz.ntmps63
  go_wp2
  go_ret
  exact ⟨rfl, rfl⟩

theorem count_fin {w W1 w' : World} {base db : Nat} {D : Dsk} {bs bf : Nat} {vch : Value} {mp : Option Nat} {fl : Fls} (h : DiskV w base db D bs bf vch mp fl) (T1 : Touch w W1 [db]) (B1 : Box W1 db (dcells bs bf vch { D with ops := D.ops + 1 } mp)) (hd : D.down = false) (hc : D.fate.isCut = false) (hw : Up W1 w') :
    DiskV w' base db D.counted bs bf vch mp fl ∧ Touch w w' [db] := by
  have T : Touch w w' [db] := T1.trans (Touch.of_up hw []) (fun k hk => by simp at hk)
  refine ⟨h.rebox T ?_ rfl rfl rfl rfl rfl (Nat.le_succ _), T⟩
  have e : dcells bs bf vch D.counted mp = dcells bs bf vch { D with ops := D.ops + 1 } mp := by simp [dcells, Dsk.counted, hc, hd]
  rw [e]
  exact B1.up hw
theorem count_cut {w W1 w' W2 : World} {base db : Nat} {D : Dsk} {bs bf : Nat} {vch : Value} {mp : Option Nat} {fl : Fls} (h : DiskV w base db D bs bf vch mp fl) (T1 : Touch w W1 [db]) (B1 : Box W1 db (dcells bs bf vch { D with ops := D.ops + 1 } mp)) (hc : D.fate.isCut = true) (h2 : Up W1 W2) (hw : Up (W2.setCell ⟨db, 5, none⟩ (.bool true)) w') :
    DiskV w' base db D.counted bs bf vch mp fl ∧ Touch w w' [db] := by
  have T : Touch w w' [db] := ((T1.trans (Touch.of_up h2 []) (fun k hk => by simp at hk)).setCell (.inl (by simp)) _ _).trans (Touch.of_up hw []) (fun k hk => by simp at hk)
  refine ⟨h.rebox T ?_ rfl rfl rfl rfl rfl (Nat.le_succ _), T⟩
  have e : dcells bs bf vch D.counted mp = (dcells bs bf vch { D with ops := D.ops + 1 } mp).setIfInBounds 5 (.bool true) := by simp [dcells, Dsk.counted, hc]
  rw [e]
  exact ((B1.up h2).set 5 _).up hw

set_option maxRecDepth 20000 in
set_option maxHeartbeats 800000 in
theorem count_any (base db : Nat) (D : Dsk) (bs bf : Nat) (vch : Value) (mp : Option Nat) (fl : Fls) (w : World) (ad : Nat → Addr) (h : DiskV w base db D bs bf vch mp fl) (hd : D.down = false) (hn1 : D.ops ≤ 1000000000000) (hn2 : D.ahead ≤ D.ops)
    (hio : Gl w 0 (ad 0)) (hdn : Gl w 1 (ad 1)) (hne1 : 0 ≠ db) (hne2 : 1 ≠ db) :
    Calls Tryz.prog 112 #[.pointer (some ⟨db, 0, none⟩)] w fun e w' => ∃ p : Int, e = .returned (.tuple #[.int .i64 p, D.fate.err ad]) ∧ (∀ q, D.fate = .fails q → p = q) ∧ DiskV w' base db D.counted bs bf vch mp fl ∧ Touch w w' [db] := by
  have b0 := h.box
  have c4 := b0.cell 4
  have f4 := b0.frozen 4
  obtain ⟨M, hM⟩ : ∃ M : Int, (D.ops : Int) + 1 - (D.ahead : Int) = M := ⟨_, rfl⟩
  have hM1 : 0 ≤ M := by omega
  have hM2 : M ≤ 1000000000001 := by omega
  obtain ⟨W1, hW1⟩ : ∃ W1, w.setCell ⟨db, 4, none⟩ (.int .i64 ((D.ops : Int) + 1)) = W1 := ⟨_, rfl⟩
  have B1 : Box W1 db (dcells bs bf vch { D with ops := D.ops + 1 } mp) := by
    rw [← hW1]
    have := b0.set 4 (.int .i64 ((D.ops : Int) + 1))
    simpa [dcells] using this
  have T1 : Touch w W1 [db] := by rw [← hW1]; exact (Touch.refl _ _).setCell (.inl (by simp)) _ _
  have P1 : PartsIs W1 mp D.parts := h.prt.kept T1 (fun k hk => by
    have nd := h.nd
    rw [List.nodup_cons] at nd
    simp only [List.mem_singleton]
    rintro rfl
    exact nd.1 (by simp [hk]))
  have hlook : ∀ n, (Instr.lookup 81 (.map mp) (.int .i64 M) true).run Tryz.prog (W1.drewN n) = .ok (.tuple #[.int .i64 ((D.parts M).getD 0), .bool (D.parts M).isSome]) (W1.drewN n) := fun n =>
    (P1.kept (Touch.of_up (up_drewN W1 n) []) (fun _ _ => by simp)).look M (WalkArith.wf_i64 (by omega))
  have G1 : Gl W1 0 (ad 0) := by
    obtain ⟨t, q⟩ := hio
    exact ⟨t, by rw [T1.block _ (Array.getElem?_eq_some_iff.1 q).1 (by simpa using hne1)]; exact q⟩
  have G2 : Gl W1 1 (ad 1) := by
    obtain ⟨t, q⟩ := hdn
    exact ⟨t, by rw [T1.block _ (Array.getElem?_eq_some_iff.1 q).1 (by simpa using hne2)]; exact q⟩
  have HK : Hid (DiskV w base db D bs bf vch mp fl ∧ Touch w W1 [db] ∧ Box W1 db (dcells bs bf vch { D with ops := D.ops + 1 } mp)) := ⟨h, T1, B1⟩
  have HM : Hid ((D.ops : Int) + 1 - (D.ahead : Int) = M) := hM
  have e1 : IntKind.i64.wrap ((D.ops : Int) + 1) = (D.ops : Int) + 1 := by rw [IntKind.wrap_i64]; omega
  have e2 : IntKind.i64.wrap ((D.ops : Int) + 1 - (D.ahead : Int)) = M := by rw [IntKind.wrap_i64]; omega
  obtain ⟨CU, hCU⟩ : ∃ CU, D.cut = CU := ⟨_, rfl⟩
  have HNE : Hid (0 ≠ db ∧ 1 ≠ db) := ⟨hne1, hne2⟩
  clear h T1 P1 hio hdn hne1 hne2 hM
  go_enter Tryz.func112, Tryz.ntmps112
  go_wp2_with fail
  have k4 : W1.cell? ⟨db, 4, none⟩ = some (.int .i64 ((D.ops : Int) + 1)) := B1.cell 4
  have k6 : W1.cell? ⟨db, 6, none⟩ = some (.int .i64 (D.ahead : Int)) := B1.cell 6
  go_quiet (fail)
  have k5 : (W1.drewN nq).cell? ⟨db, 5, none⟩ = some (.bool false) := (B1.cell 5).trans (by rw [← hd]; rfl)
  have f5 : (W1.drewN nq).frozen? ⟨db, 5, none⟩ = false := B1.frozen 5
  have k7 : (W1.drewN nq).cell? ⟨db, 7, none⟩ = some (.map mp) := B1.cell 7
  have k8 : (W1.drewN nq).cell? ⟨db, 8, none⟩ = some (.int .i64 CU) := (B1.cell 8).trans (by rw [← hCU]; rfl)
  have hlk := hlook nq
  have G1' := G1.up (up_drewN W1 nq)
  have G2' := G2.up (up_drewN W1 nq)
  obtain ⟨W2, hW2⟩ : ∃ W2, W1.drewN nq = W2 := ⟨_, rfl⟩
  have HW2 : Hid (Up W1 W2) := by rw [← hW2]; exact up_drewN W1 nq
  rw [hW2] at k5 f5 k7 k8 hlk G1' G2' ⊢
  clear hlook k4 k6 B1 hW2
  by_cases hc : M = CU
  · have t1 : (M == CU) = true := by simp [hc]
    have g3 : Gl (W2.setCell ⟨db, 5, none⟩ (.bool true)) 1 (ad 1) := by
      obtain ⟨t, q⟩ := G2'
      refine ⟨t, ?_⟩
      rw [heap_setCell_other _ ⟨db, 5, none⟩ _ _ HNE.out.2]
      exact q
    have hf : D.fate = .cut := by unfold Dsk.fate; rw [HM.out, if_pos (hc.trans hCU.symm)]
    have HF : Hid (D.fate = .cut) := hf
    have g3' := g3.cell
    clear hf hc g3 hCU G1' G2'
    go_wp2_with fail
    go_quiet (fail)
    go_wp2
    go_ret2
    have r := fun w' hw => count_cut (w' := w') HK.out.1 HK.out.2.1 HK.out.2.2 (by rw [HF.out]; rfl) HW2.out hw
    exact ⟨0, (by rw [HF.out]; rfl), (fun q hq => by rw [HF.out] at hq; cases hq), (r _ (up_drewN _ _)).1, (r _ (up_drewN _ _)).2⟩
  · have t1 : (M == CU) = false := by simp [hc]
    have hc2 : ¬ ((D.ops : Int) + 1 - (D.ahead : Int) = D.cut) := by rw [HM.out, hCU]; exact hc
    cases hp : D.parts M with
    | none =>
      rw [hp] at hlk
      have hf : D.fate = .goes := by unfold Dsk.fate; rw [if_neg hc2, HM.out, hp]
      have HF : Hid (D.fate = .goes ∧ D.down = false) := ⟨hf, hd⟩
      clear hf hc hc2 hCU hp hd
      go_wp2
      go_ret2
      have r := count_fin HK.out.1 HK.out.2.1 HK.out.2.2 HF.out.2 (by rw [HF.out.1]; rfl) HW2.out
      exact ⟨0, (by rw [HF.out.1]; rfl), (fun q hq => by rw [HF.out.1] at hq; cases hq), r.1, r.2⟩
    | some q =>
      rw [hp] at hlk
      have hf : D.fate = .fails q := by unfold Dsk.fate; rw [if_neg hc2, HM.out, hp]
      have HF : Hid (D.fate = .fails q ∧ D.down = false) := ⟨hf, hd⟩
      have g1' := G1'.cell
      clear hf hc hc2 hCU hp hd
      go_wp2_with fail
      go_quiet (fail)
      go_wp2
      go_ret2
      have r := fun w' hw => count_fin (w' := w') HK.out.1 HK.out.2.1 HK.out.2.2 HF.out.2 (by rw [HF.out.1]; rfl) (HW2.out.trans hw)
      exact ⟨q, (by rw [HF.out.1]; rfl), (fun q' hq => by rw [HF.out.1] at hq; cases hq; rfl), (r _ (up_drewN _ _)).1, (r _ (up_drewN _ _)).2⟩
end Go.Proofs.YtkfjkfpodkbkaaaGreatDoor

set_option linter.unusedVariables false
namespace Go.Proofs.YtkfjkfpodkbkaaaGreatDoor
open Go Go.RowKit

/-- A row of n bytes at the head of block g, the first k of them those of bs. -/
def Fill (w : World) (g n k : Nat) (bs : List UInt8) : Prop := ∃ cur, w.heap[g]? = some (.cells cur 5 (0, 0)) ∧ cur.size = n ∧ cur.toList.take k = Bv (bs.take k)

theorem Fill.cell {w : World} {g n k : Nat} {bs : List UInt8} (h : Fill w g n k bs) (hk : k < n) : (∃ v, w.cell? ⟨g, k, none⟩ = some v) ∧ w.frozen? ⟨g, k, none⟩ = false := by
  obtain ⟨cur, h1, h2, _⟩ := h
  refine ⟨⟨cur[k]'(by omega), ?_⟩, by simp [World.frozen?, h1]⟩
  rw [cell_of_row w g k cur _ _ h1]
  simp [h2, hk]

theorem Fill.next {w : World} {g n k : Nat} {bs : List UInt8} (h : Fill w g n k bs) (hk : k < n) (hn : n = bs.length) : Fill (w.setCell ⟨g, k, none⟩ (B (bs[k]'(by omega)))) g n (k + 1) bs := by
  obtain ⟨cur, h1, h2, h3⟩ := h
  refine ⟨cur.setIfInBounds k (B (bs[k]'(by omega))), ?_, by simp [h2], ?_⟩
  · rw [setCell_eq_setRow w g k cur 5 (0, 0) _ h1]
    exact setRow_heap w g cur _ _ _ h1
  · have hk2 : k < bs.length := by omega
    rw [Array.toList_setIfInBounds]
    apply List.ext_getElem?
    intro i
    by_cases hi : i < k
    · have := congrArg (·[i]?) h3
      simp only [List.getElem?_take, if_pos hi] at this
      simp only [List.getElem?_take, if_pos (show i < k + 1 by omega), List.getElem?_set_ne (show k ≠ i by omega), this]
      simp [hi, show i < k + 1 by omega]
    · by_cases he : i = k
      · subst he
        simp [h2, hk, hk2]
      · simp [List.getElem?_take, show ¬ i < k + 1 by omega]

theorem Fill.own {w : World} {g n : Nat} {bs : List UInt8} (h : Fill w g n n bs) (hn : n = bs.length) (hm : n ≤ maxLen) (base : Nat) (hb : base ≤ g) : Own w 5 base (.slice (some ⟨g, 0, none⟩) n n) bs := by
  obtain ⟨cur, h1, h2, h3⟩ := h
  subst hn
  refine ⟨by simp, .inr ⟨g, bs.length, cur, rfl, hb, h1, Nat.le_refl _, hm, by simp [h2], ?_⟩⟩
  rw [List.take_length] at h3
  simpa using h3




end Go.Proofs.YtkfjkfpodkbkaaaGreatDoor

set_option linter.unusedVariables false
namespace Go.Proofs.YtkfjkfpodkbkaaaGreatDoor
open Go Go.RowKit



/-- The bytes of a slice lie in a block of bytes alone where its block is known: another block's turn does not touch them. -/
theorem sl_other {base : Nat} {w w' : World} {r t : Nat} {cs : Array Value} {v : Value} {bs : List UInt8} (hs : Sl base w v bs) (h : w.heap[r]? = some (.cells cs t (0, 0))) (hne : ∀ (o : Nat) (q : Int), cs[o]? = some (Value.int .u8 q) → False) (hu : But r w w') : Sl base w' v bs := by
  obtain ⟨ao, cap, rfl, hc, hn, hxx⟩ := hs
  refine ⟨ao, cap, rfl, hc, hn, fun hb => ?_⟩
  obtain ⟨b, o, rfl, hbb, ha⟩ := hxx hb
  refine ⟨b, o, rfl, hbb, ha.but hu ?_⟩
  rintro rfl
  have hl : 0 < bs.length := List.length_pos_iff.2 hb
  have := ha 0 hl
  rw [cell_of_row w b _ _ t _ h] at this
  exact hne _ _ this

theorem rrd_ne {v : Value} {c : Nat} (hv : ∀ k n, v ≠ .int k n) : ∀ (o : Nat) (q : Int), (#[v, Value.int .i64 (c : Int)] : Array Value)[o]? = some (Value.int .u8 q) → False := by
  intro o q h
  match o, h with
  | 0, h => simp at h; exact hv _ _ h
  | 1, h => simp at h
  | n + 2, h => simp at h






def endC (bs : List UInt8) (c : Nat) : Nat := if c = 0 ∧ 0 < bs.length then 3 else c
end Go.Proofs.YtkfjkfpodkbkaaaGreatDoor

set_option linter.unusedVariables false
namespace Go.Proofs.YtkfjkfpodkbkaaaGreatDoor
open Go Go.RowKit

def cA (n : Nat) (bs : List UInt8) (c : Nat) : Nat := if c = 0 ∧ n ≤ bs.length then unle (bs.take n) else 0
def cL (n : Nat) (bs : List UInt8) (c : Nat) : List UInt8 := if c = 0 ∧ n ≤ bs.length then bs.drop n else bs
def cF (n : Nat) (bs : List UInt8) (c : Nat) : Nat := if c = 0 then (if n ≤ bs.length then 0 else 2) else c



theorem wrap_step (X q : Nat) (hX : Hid (X < 2 ^ 56)) (hq : Hid (q < 256)) : Value.int IntKind.u64 (IntKind.u64.wrap (IntKind.u64.wrap ((X : Int) * 256) + IntKind.u64.wrap (q : Int))) = Value.int .u64 ((X * 256 + q : Nat) : Int) := by
  have h1 := hX.out
  have h2 := hq.out
  congr 1
  rw [IntKind.wrap_u64, IntKind.wrap_u64, IntKind.wrap_u64]
  omega

end Go.Proofs.YtkfjkfpodkbkaaaGreatDoor

set_option linter.unusedVariables false
namespace Go.Proofs.YtkfjkfpodkbkaaaGreatDoor
open Go Go.RowKit


theorem cA_lt (n : Nat) (bs : List UInt8) (c : Nat) : cA n bs c < 256 ^ n := by
  unfold cA
  split
  · have := unle_lt (bs.take n)
    rwa [show (bs.take n).length = n by simp; omega] at this
  · exact Nat.pow_pos (by omega)


/-! Text. -/
def tA (bs : List UInt8) (c : Nat) : List UInt8 := if c = 0 ∧ textOk bs then (bs.drop 2).take (unle (bs.take 2)) else []
def tL (bs : List UInt8) (c : Nat) : List UInt8 := if c = 0 ∧ textOk bs then bs.drop (2 + unle (bs.take 2)) else bs
def tF (bs : List UInt8) (c : Nat) : Nat := if c = 0 then (if textOk bs then 0 else 2) else c



theorem take2 : ∀ (bs : List UInt8) (h : 2 ≤ bs.length), bs.take 2 = [bs[0]'(by omega), bs[1]'(by omega)]
  | _ :: _ :: _, _ => rfl



/-! Number. -/
def grp : Nat → List UInt8 → Nat
  | _, [] => 0
  | i, c :: r => if i = 10 then 0 else if c.toNat < 128 then i + 1 else grp (i + 1) r

end Go.Proofs.YtkfjkfpodkbkaaaGreatDoor

set_option linter.unusedVariables false
namespace Go.Proofs.YtkfjkfpodkbkaaaGreatDoor
open Go Go.RowKit

def un128 : List UInt8 → Nat
  | [] => 0
  | c :: r => c.toNat % 128 + 128 * un128 r

theorem un128_lt (l : List UInt8) : un128 l < 128 ^ l.length := by
  induction l with
  | nil => simp [un128]
  | cons c r ih =>
    have : c.toNat % 128 < 128 := Nat.mod_lt _ (by omega)
    simp only [un128, List.length_cons, Nat.pow_succ]
    omega
theorem un128_snoc (l : List UInt8) (c : UInt8) : un128 (l ++ [c]) = un128 l + 128 ^ l.length * (c.toNat % 128) := by
  induction l with
  | nil => simp [un128]
  | cons d r ih => simp only [List.cons_append, un128, ih, List.length_cons, Nat.pow_succ]; rw [Nat.mul_add, Nat.add_assoc, Nat.mul_comm (128 ^ r.length) 128, Nat.mul_assoc]

theorem grp_le (bs : List UInt8) : ∀ i, i ≤ 10 → grp i bs ≤ i + bs.length ∧ grp i bs ≤ 10 := by
  induction bs with
  | nil => intro i _; simp [grp]
  | cons c r ih =>
    intro i hi
    unfold grp
    split
    · simp
    · split
      · simp only [List.length_cons]; omega
      · have := ih (i + 1) (by omega)
        simp only [List.length_cons]; omega

theorem un128_top (bs : List UInt8) (m : Nat) (hm : m < bs.length) (hm9 : m < 9 ∨ m = 9 ∧ (bs[m]'hm).toNat ≤ 1) (j : Nat) (hj : j ≤ m) : un128 ((bs.take (m + 1)).drop (j + 1)) < 2 ^ 57 := by
  rcases hm9 with h | ⟨rfl, h⟩
  · have h1 := un128_lt ((bs.take (m + 1)).drop (j + 1))
    have h2 : ((bs.take (m + 1)).drop (j + 1)).length ≤ 8 := by simp; omega
    have h3 : (128 : Nat) ^ ((bs.take (m + 1)).drop (j + 1)).length ≤ 128 ^ 8 := Nat.pow_le_pow_right (by omega) h2
    omega
  · by_cases hj9 : j = 9
    · subst hj9
      rw [List.drop_of_length_le (by simp; omega)]
      simp [un128]
    · have e : (bs.take (9 + 1)).drop (j + 1) = (bs.take 9).drop (j + 1) ++ [bs[9]'hm] := by
        rw [List.take_succ_eq_append_getElem hm, List.drop_append_of_le_length (by simp; omega)]
      rw [e, un128_snoc]
      have h1 := un128_lt ((bs.take 9).drop (j + 1))
      have h2 : ((bs.take 9).drop (j + 1)).length ≤ 8 := by simp; omega
      have h3 : (128 : Nat) ^ ((bs.take 9).drop (j + 1)).length ≤ 128 ^ 8 := Nat.pow_le_pow_right (by omega) h2
      have h4 : (bs[9]'hm).toNat % 128 ≤ 1 := by omega
      have h5 := Nat.mul_le_mul_left (128 ^ ((bs.take 9).drop (j + 1)).length) h4
      omega




end Go.Proofs.YtkfjkfpodkbkaaaGreatDoor
