/- Merged: DkIs, DkOp1. -/
import Derived.Test.YtfhcnciimnhnlaaGreatDoorMg19
import Derived.LaidEql
import Derived.Stop.Asserts
import Derived.RowKitTokens
import Derived.Test.YtfhcnciimnhnlaaGreatDoorMg20
import Derived.BigQuiet
import Derived.Deep.QuietTactic
import Derived.Deep.DeepCutAuto
set_option linter.unusedVariables false
namespace Go.Proofs.YtfhcnciimnhnlaaGreatDoor
open Go Go.RowKit Go.Extern.Stop Go.Stop Go.Extern

theorem Tryz.isTypeOf (v : Value) (w : World) : (Extern.ReflectliteType.typeOf #[.iface 326 v]).run Tryz.prog w = .ok (.iface 310 (.agg #[.pointer (some ⟨22, 326, none⟩)])) w := by kernel_rfl
theorem Tryz.isComparable (w : World) : ((Extern.ReflectliteType.method fun t => do Extern.Rtype.noPackHeld "Comparable" t; (fun a => Value.bool a.comparable) <$> typeInfo t) #[.agg #[.pointer (some ⟨22, 326, none⟩)]]).run Tryz.prog w = .ok (.bool true) w := by kernel_rfl
theorem Tryz.isMethodComparable (v : Value) (w : World) : (Go.method 466 310 v "Comparable").run Tryz.prog w = .ok (301, v) w := by kernel_rfl
theorem Tryz.isComp : (Tryz.prog.info? 326).map (·.comparable) = some true := by kernel_rfl
theorem Tryz.isSize : (Tryz.prog.info? 328).map (·.size) = some 1 := by kernel_rfl
theorem Tryz.noIsE (v : Value) (xT : TypeId) (w : World) : (Instr.typeAssert (.iface 326 v) xT 312 true).run Tryz.prog w = .ok (.tuple #[.nilIface, .bool false]) w := run_typeAssert_lacksB Tryz.underlying312 (by kernel_rfl) (by kernel_rfl) v xT w
theorem Tryz.noUnwrapE (v : Value) (xT : TypeId) (w : World) : (Instr.typeAssert (.iface 326 v) xT 315 true).run Tryz.prog w = .ok (.tuple #[.nilIface, .bool false]) w := run_typeAssert_lacksB Tryz.underlying315 (by kernel_rfl) (by kernel_rfl) v xT w
theorem Tryz.noUnwrapsE (v : Value) (xT : TypeId) (w : World) : (Instr.typeAssert (.iface 326 v) xT 316 true).run Tryz.prog w = .ok (.tuple #[.nilIface, .bool false]) w := run_typeAssert_lacksB Tryz.underlying316 (by kernel_rfl) (by kernel_rfl) v xT w

/-- errors.Is(nil, x). -/
theorem isErr_nil (b : Addr) (w : World) : Calls Tryz.prog 173 #[.nilIface, E b] w fun e w' => e = .returned (.bool false) ∧ w' = w := by
  have hn := run_eql_iface_nil_left (P := Tryz.prog) w 326 (.pointer (some b)) Tryz.underlying64
  go_enter Tryz.func173, Tryz.ntmps173
  go_wp2
  go_ret
  exact ⟨rfl, rfl⟩

set_option maxRecDepth 20000 in
set_option maxHeartbeats 800000 in
/-- errors.Is(x, x). -/
theorem isErr_same (a : Addr) (w : World) : Calls Tryz.prog 173 #[E a, E a] w fun e w' => e = .returned (.bool true) ∧ w' = w := by
  obtain ⟨i, hi, hcmp⟩ := Option.map_eq_some_iff.1 Tryz.isComp
  obtain ⟨j, hj, hjs⟩ := Option.map_eq_some_iff.1 Tryz.isSize
  have h8 := @run_callFunc_extern Tryz.prog 212 _ Extern.ReflectliteType.typeOf Tryz.func212 (by kernel_rfl) (by kernel_rfl) (by kernel_rfl) (by kernel_rfl)
  have h32 := @run_callFunc_extern Tryz.prog 301 _ (Extern.ReflectliteType.method fun t => do Extern.Rtype.noPackHeld "Comparable" t; pure (.bool (← typeInfo t).comparable)) Tryz.func301 (by kernel_rfl) (by kernel_rfl) (by kernel_rfl) (by kernel_rfl)
  have tT := Tryz.isTypeOf
  have cT := Tryz.isComparable
  have mR := Tryz.isMethodComparable
  have heq := run_eql_iface_ptr_same (P := Tryz.prog) w a Tryz.underlying64 Tryz.underlying326 hi hcmp hj
  go_enter Tryz.func173, Tryz.ntmps173
  go_wp2
  refine wp_loop_rounds 1 ?_
  rw [rounds_succ]
  go_wp2
  go_ret
  exact ⟨rfl, rfl⟩

set_option maxRecDepth 20000 in
set_option maxHeartbeats 800000 in
/-- errors.Is(x, y), two errors of unlike texts. -/
theorem isErr_other {a b : Addr} {w : World} {s t : List UInt8} (ha : ErrAt w a s) (hb : ErrAt w b t) (h : s ≠ t) : Calls Tryz.prog 173 #[E a, E b] w fun e w' => e = .returned (.bool false) ∧ w' = w := by
  obtain ⟨i, hi, hcmp⟩ := Option.map_eq_some_iff.1 Tryz.isComp
  obtain ⟨j, hj, hjs⟩ := Option.map_eq_some_iff.1 Tryz.isSize
  have h8 := @run_callFunc_extern Tryz.prog 212 _ Extern.ReflectliteType.typeOf Tryz.func212 (by kernel_rfl) (by kernel_rfl) (by kernel_rfl) (by kernel_rfl)
  have h32 := @run_callFunc_extern Tryz.prog 301 _ (Extern.ReflectliteType.method fun t => do Extern.Rtype.noPackHeld "Comparable" t; pure (.bool (← typeInfo t).comparable)) Tryz.func301 (by kernel_rfl) (by kernel_rfl) (by kernel_rfl) (by kernel_rfl)
  have tT := Tryz.isTypeOf
  have cT := Tryz.isComparable
  have mR := Tryz.isMethodComparable
  have nE := Tryz.noIsE
  have uE := Tryz.noUnwrapE
  have vE := Tryz.noUnwrapsE
  have heq := eq_other ha hb h
  go_enter Tryz.func173, Tryz.ntmps173
  go_wp2
  refine wp_loop_rounds 1 ?_
  rw [rounds_succ]
  go_wp2
  go_ret
  exact ⟨rfl, rfl⟩

end Go.Proofs.YtfhcnciimnhnlaaGreatDoor

set_option linter.unusedVariables false
set_option linter.unusedSimpArgs false
namespace Go.Proofs.YtfhcnciimnhnlaaGreatDoor
open Go Go.RowKit Go.Maps

theorem ready_up (db : Nat) (w : World) (h5 : w.cell? ⟨db, 5, none⟩ = some (.bool false)) : Calls Tryz.prog 64 #[.pointer (some ⟨db, 0, none⟩)] w fun e w' => e = .returned .nilIface ∧ w' = w := by
  go_enter Tryz.func64, Tryz.ntmps64
  go_wp2
  go_ret
  exact ⟨rfl, rfl⟩
theorem ready_down (db : Nat) (w : World) (a : Addr) (h5 : w.cell? ⟨db, 5, none⟩ = some (.bool true)) (ha : w.cell? ⟨1, 0, none⟩ = some (E a)) : Calls Tryz.prog 64 #[.pointer (some ⟨db, 0, none⟩)] w fun e w' => e = .returned (E a) ∧ w' = w := by
  go_enter Tryz.func64, Tryz.ntmps64
  go_wp2
  go_ret
  exact ⟨rfl, rfl⟩

/-- A name that leads to a file. -/
theorem missing_not (db bs n : Nat) (x : Nm) (m : Nm → Option Nat) (k : Nat) (w : World) (h0 : w.cell? ⟨db, 0, none⟩ = some (.map (some bs))) (hm : MapIs w bs n m) (hk : m x = some k) (hl : x.length ≤ maxLen) :
    Calls Tryz.prog 99 #[.pointer (some ⟨db, 0, none⟩), Sv x] w fun e w' => e = .returned .nilIface ∧ w' = w := by
  have hlook := hm.look hl
  rw [hk] at hlook
  go_enter Tryz.func99, Tryz.ntmps99
  go_wp2
  go_ret
  exact ⟨rfl, rfl⟩

theorem count_fin {w W1 w' : World} {base db : Nat} {D : Dsk} {bs bf : Nat} {vch : Value} {mp : Option Nat} {fl : Fls} (h : DiskV w base db D bs bf vch mp fl) (T1 : Touch w W1 [db]) (B1 : Box W1 db (dcells bs bf vch { D with ops := D.ops + 1 } mp)) (hd : D.down = false) (hc : D.fate.isCut = false) (hw : Up W1 w') :
    DiskV w' base db D.counted bs bf vch mp fl ∧ Touch w w' [db] := by
  have T : Touch w w' [db] := T1.trans (Touch.of_up hw []) (fun k hk => by simp at hk)
  refine ⟨h.rebox T ?_ rfl rfl rfl rfl rfl (Nat.le_succ _), T⟩
  have e : dcells bs bf vch D.counted mp = dcells bs bf vch { D with ops := D.ops + 1 } mp := by simp [dcells, Dsk.counted, hc, hd]
  rw [e]
  exact B1.up hw
theorem count_cut {w W1 w' W2 : World} {base db : Nat} {D : Dsk} {bs bf : Nat} {vch : Value} {mp : Option Nat} {fl : Fls} (h : DiskV w base db D bs bf vch mp fl) (T1 : Touch w W1 [db]) (B1 : Box W1 db (dcells bs bf vch { D with ops := D.ops + 1 } mp)) (hc : D.fate.isCut = true) (h2 : Up W1 W2) (hw : Up (W2.setCell ⟨db, 5, none⟩ (.bool true)) w') :
    DiskV w' base db D.counted bs bf vch mp fl ∧ Touch w w' [db] := by
  have T : Touch w w' [db] := ((T1.trans (Touch.of_up h2 []) (fun k hk => by simp at hk)).setCell (.inl (by simp)) _ _).trans (Touch.of_up hw []) (fun k hk => by simp at hk)
  refine ⟨h.rebox T ?_ rfl rfl rfl rfl rfl (Nat.le_succ _), T⟩
  have e : dcells bs bf vch D.counted mp = (dcells bs bf vch { D with ops := D.ops + 1 } mp).setIfInBounds 5 (.bool true) := by simp [dcells, Dsk.counted, hc]
  rw [e]
  exact ((B1.up h2).set 5 _).up hw

set_option maxRecDepth 20000 in
set_option maxHeartbeats 800000 in
theorem count_any (base db : Nat) (D : Dsk) (bs bf : Nat) (vch : Value) (mp : Option Nat) (fl : Fls) (w : World) (ad : Nat → Addr) (h : DiskV w base db D bs bf vch mp fl) (hd : D.down = false) (hn1 : D.ops ≤ 1000000000000) (hn2 : D.ahead ≤ D.ops)
    (hio : Gl w 0 (ad 0)) (hdn : Gl w 1 (ad 1)) (hne1 : 0 ≠ db) (hne2 : 1 ≠ db) :
    Calls Tryz.prog 171 #[.pointer (some ⟨db, 0, none⟩)] w fun e w' => ∃ p : Int, e = .returned (.tuple #[.int .i64 p, D.fate.err ad]) ∧ (∀ q, D.fate = .fails q → p = q) ∧ DiskV w' base db D.counted bs bf vch mp fl ∧ Touch w w' [db] := by
  have b0 := h.box
  have c4 := b0.cell 4
  have f4 := b0.frozen 4
  obtain ⟨M, hM⟩ : ∃ M : Int, (D.ops : Int) + 1 - (D.ahead : Int) = M := ⟨_, rfl⟩
  have hM1 : 0 ≤ M := by omega
  have hM2 : M ≤ 1000000000001 := by omega
  obtain ⟨W1, hW1⟩ : ∃ W1, w.setCell ⟨db, 4, none⟩ (.int .i64 ((D.ops : Int) + 1)) = W1 := ⟨_, rfl⟩
  have B1 : Box W1 db (dcells bs bf vch { D with ops := D.ops + 1 } mp) := by
    rw [← hW1]
    have := b0.set 4 (.int .i64 ((D.ops : Int) + 1))
    simpa [dcells] using this
  have T1 : Touch w W1 [db] := by rw [← hW1]; exact (Touch.refl _ _).setCell (.inl (by simp)) _ _
  have P1 : PartsIs W1 mp D.parts := h.prt.kept T1 (fun k hk => by
    have nd := h.nd
    rw [List.nodup_cons] at nd
    simp only [List.mem_singleton]
    rintro rfl
    exact nd.1 (by simp [hk]))
  have hlook : ∀ n, (Instr.lookup 95 (.map mp) (.int .i64 M) true).run Tryz.prog (W1.drewN n) = .ok (.tuple #[.int .i64 ((D.parts M).getD 0), .bool (D.parts M).isSome]) (W1.drewN n) := fun n =>
    (P1.kept (Touch.of_up (up_drewN W1 n) []) (fun _ _ => by simp)).look M (WalkArith.wf_i64 (by omega))
  have G1 : Gl W1 0 (ad 0) := by
    obtain ⟨t, q⟩ := hio
    exact ⟨t, by rw [T1.block _ (Array.getElem?_eq_some_iff.1 q).1 (by simpa using hne1)]; exact q⟩
  have G2 : Gl W1 1 (ad 1) := by
    obtain ⟨t, q⟩ := hdn
    exact ⟨t, by rw [T1.block _ (Array.getElem?_eq_some_iff.1 q).1 (by simpa using hne2)]; exact q⟩
  have HK : Hid (DiskV w base db D bs bf vch mp fl ∧ Touch w W1 [db] ∧ Box W1 db (dcells bs bf vch { D with ops := D.ops + 1 } mp)) := ⟨h, T1, B1⟩
  have HM : Hid ((D.ops : Int) + 1 - (D.ahead : Int) = M) := hM
  have e1 : IntKind.i64.wrap ((D.ops : Int) + 1) = (D.ops : Int) + 1 := by rw [IntKind.wrap_i64]; omega
  have e2 : IntKind.i64.wrap ((D.ops : Int) + 1 - (D.ahead : Int)) = M := by rw [IntKind.wrap_i64]; omega
  obtain ⟨CU, hCU⟩ : ∃ CU, D.cut = CU := ⟨_, rfl⟩
  have HNE : Hid (0 ≠ db ∧ 1 ≠ db) := ⟨hne1, hne2⟩
  clear h T1 P1 hio hdn hne1 hne2 hM
  go_enter Tryz.func171, Tryz.ntmps171
  go_wp2_with fail
  have k4 : W1.cell? ⟨db, 4, none⟩ = some (.int .i64 ((D.ops : Int) + 1)) := B1.cell 4
  have k6 : W1.cell? ⟨db, 6, none⟩ = some (.int .i64 (D.ahead : Int)) := B1.cell 6
  go_quiet (fail)
  have k5 : (W1.drewN nq).cell? ⟨db, 5, none⟩ = some (.bool false) := (B1.cell 5).trans (by rw [← hd]; rfl)
  have f5 : (W1.drewN nq).frozen? ⟨db, 5, none⟩ = false := B1.frozen 5
  have k7 : (W1.drewN nq).cell? ⟨db, 7, none⟩ = some (.map mp) := B1.cell 7
  have k8 : (W1.drewN nq).cell? ⟨db, 8, none⟩ = some (.int .i64 CU) := (B1.cell 8).trans (by rw [← hCU]; rfl)
  have hlk := hlook nq
  have G1' := G1.up (up_drewN W1 nq)
  have G2' := G2.up (up_drewN W1 nq)
  obtain ⟨W2, hW2⟩ : ∃ W2, W1.drewN nq = W2 := ⟨_, rfl⟩
  have HW2 : Hid (Up W1 W2) := by rw [← hW2]; exact up_drewN W1 nq
  rw [hW2] at k5 f5 k7 k8 hlk G1' G2' ⊢
  clear hlook k4 k6 B1 hW2
  by_cases hc : M = CU
  · have t1 : (M == CU) = true := by simp [hc]
    have g3 : Gl (W2.setCell ⟨db, 5, none⟩ (.bool true)) 1 (ad 1) := by
      obtain ⟨t, q⟩ := G2'
      refine ⟨t, ?_⟩
      rw [heap_setCell_other _ ⟨db, 5, none⟩ _ _ HNE.out.2]
      exact q
    have hf : D.fate = .cut := by unfold Dsk.fate; rw [HM.out, if_pos (hc.trans hCU.symm)]
    have HF : Hid (D.fate = .cut) := hf
    have g3' := g3.cell
    clear hf hc g3 hCU G1' G2'
    go_wp2_with fail
    go_quiet (fail)
    go_wp2
    go_ret2
    have r := fun w' hw => count_cut (w' := w') HK.out.1 HK.out.2.1 HK.out.2.2 (by rw [HF.out]; rfl) HW2.out hw
    exact ⟨0, (by rw [HF.out]; rfl), (fun q hq => by rw [HF.out] at hq; cases hq), (r _ (up_drewN _ _)).1, (r _ (up_drewN _ _)).2⟩
  · have t1 : (M == CU) = false := by simp [hc]
    have hc2 : ¬ ((D.ops : Int) + 1 - (D.ahead : Int) = D.cut) := by rw [HM.out, hCU]; exact hc
    cases hp : D.parts M with
    | none =>
      rw [hp] at hlk
      have hf : D.fate = .goes := by unfold Dsk.fate; rw [if_neg hc2, HM.out, hp]
      have HF : Hid (D.fate = .goes ∧ D.down = false) := ⟨hf, hd⟩
      clear hf hc hc2 hCU hp hd
      go_wp2
      go_ret2
      have r := count_fin HK.out.1 HK.out.2.1 HK.out.2.2 HF.out.2 (by rw [HF.out.1]; rfl) HW2.out
      exact ⟨0, (by rw [HF.out.1]; rfl), (fun q hq => by rw [HF.out.1] at hq; cases hq), r.1, r.2⟩
    | some q =>
      rw [hp] at hlk
      have hf : D.fate = .fails q := by unfold Dsk.fate; rw [if_neg hc2, HM.out, hp]
      have HF : Hid (D.fate = .fails q ∧ D.down = false) := ⟨hf, hd⟩
      have g1' := G1'.cell
      clear hf hc hc2 hCU hp hd
      go_wp2_with fail
      go_quiet (fail)
      go_wp2
      go_ret2
      have r := fun w' hw => count_fin (w' := w') HK.out.1 HK.out.2.1 HK.out.2.2 HF.out.2 (by rw [HF.out.1]; rfl) (HW2.out.trans hw)
      exact ⟨q, (by rw [HF.out.1]; rfl), (fun q' hq => by rw [HF.out.1] at hq; cases hq; rfl), (r _ (up_drewN _ _)).1, (r _ (up_drewN _ _)).2⟩
end Go.Proofs.YtfhcnciimnhnlaaGreatDoor
