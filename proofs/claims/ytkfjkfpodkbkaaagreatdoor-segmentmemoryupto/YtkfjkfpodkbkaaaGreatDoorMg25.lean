/- Merged: SgName, SgMod. -/
import Derived.Test.YtkfjkfpodkbkaaaGreatDoorMg24
set_option linter.unusedVariables false
set_option linter.unusedSimpArgs false
namespace Go.Proofs.YtkfjkfpodkbkaaaGreatDoor
open Go Go.RowKit

theorem formatUint16 (x : Nat) (w : World) (hx : x < 18446744073709551616) (hT : w.cell? ⟨17, 15, none⟩ = some (.int .u8 4)) :
    Calls Tryz.prog 76 #[.int .u64 (x : Int), .int .i64 16] w fun e w' => e = .returned (.string ⟨(hexB x).toArray⟩) ∧ Up w w' := by
  have hb := formatBits16 x w hx hT
  clear hx hT
  go_enter Tryz.func76, Tryz.ntmps76
  go_wp2_with fail
  refine hb.mono ?_
  rintro e w1 ⟨rfl, u1⟩
  clear hb
  go_wp2
  go_ret
  exact ⟨rfl, u1⟩
theorem FormatUint16 (x : Nat) (w : World) (hx : x < 18446744073709551616) (hT : w.cell? ⟨17, 15, none⟩ = some (.int .u8 4)) :
    Calls Tryz.prog 37 #[.int .u64 (x : Int), .int .i64 16] w fun e w' => e = .returned (.string ⟨(hexB x).toArray⟩) ∧ Up w w' := by
  have hb := formatUint16 x w hx hT
  clear hx hT
  go_enter Tryz.func37, Tryz.ntmps37
  go_wp2_with fail
  refine hb.mono ?_
  rintro e w1 ⟨rfl, u1⟩
  clear hb
  go_wp2
  go_ret
  exact ⟨rfl, u1⟩

abbrev Zs : List UInt8 := List.replicate 64 48
theorem mul1_any (k : Nat) (w : World) (hk : k ≤ 16) : Calls Tryz.prog 77 #[.int .u64 1, .int .u64 (k : Int)] w fun e w' => e = .returned (.tuple #[.int .u64 0, .int .u64 (k : Int)]) ∧ w' = w := by
  have e1 : bits BinOp.and IntKind.u64 1 4294967295 = 1 := by kernel_rfl
  have e2 : bits BinOp.and IntKind.u64 (k : Int) 4294967295 = (k : Int) := by
    have h := bits_and_u64_nat k 4294967295 (by omega) (by omega)
    have e : k &&& 4294967295 = k % 4294967296 := Nat.and_two_pow_sub_one_eq_mod k 32
    rw [e, Nat.mod_eq_of_lt (by omega)] at h
    exact h
  have e3 : (k : Int) / 4294967296 = 0 := by omega
  have e4 : IntKind.u64.wrap (k : Int) = (k : Int) := by rw [IntKind.wrap_u64]; omega
  have e5 : bits BinOp.and IntKind.u64 0 4294967295 = 0 := by kernel_rfl
  have k0 : (0 : Int) ≤ (k : Int) := by omega
  clear hk
  go_enter Tryz.func77, Tryz.ntmps77
  go_wp2
  go_ret2
  exact ⟨rfl, rfl⟩


abbrev ZsB : ByteArray := ⟨#[48, 48, 48, 48, 48, 48, 48, 48, 48, 48, 48, 48, 48, 48, 48, 48, 48, 48, 48, 48, 48, 48, 48, 48, 48, 48, 48, 48, 48, 48, 48, 48, 48, 48, 48, 48, 48, 48, 48, 48, 48, 48, 48, 48, 48, 48, 48, 48, 48, 48, 48, 48, 48, 48, 48, 48, 48, 48, 48, 48, 48, 48, 48, 48]⟩
theorem zs_cut (k : Nat) (hk : k ≤ 16) (w : World) : (Instr.slice 9 (.string ZsB) none (some (.int .i64 (k : Int))) none).run Tryz.prog w = .ok (.string ⟨(List.replicate k (48 : UInt8)).toArray⟩) w := by
  have : ∀ k : Fin 17, (ZsB.extract 0 k.val) = ⟨(List.replicate k.val (48 : UInt8)).toArray⟩ := by decide +kernel
  have h := this ⟨k, by omega⟩
  have hs : ZsB.size = 64 := by rfl
  have h1 : (0 : Int) ≤ (k : Int) := by omega
  have h2 : (k : Int) ≤ 64 := by omega
  simp only [← h]
  simp [go_sem, hs, h1, h2]
theorem prefix_one (s : ByteArray) (b : Bool) (w : World) (h1 : (1 : Int) ≤ (s.size : Int)) (hx : ((s.extract 0 1).toList == [48]) = b) : Calls Tryz.prog 78 #[.string s, .string ⟨#[48]⟩] w fun e w' => e = .returned (.bool b) ∧ w' = w := by
  have h0 : (0 : Int) ≤ (s.size : Int) := by omega
  go_enter Tryz.func78, Tryz.ntmps78
  go_wp2
  go_ret
  exact ⟨rfl, rfl⟩

set_option maxRecDepth 20000 in
set_option maxHeartbeats 800000 in
theorem Repeat0 (k : Nat) (w : World) (hk : k ≤ 15) : Calls Tryz.prog 38 #[.string ⟨#[48]⟩, .int .i64 (k : Int)] w fun e w' => e = .returned (.string ⟨(List.replicate k (48 : UInt8)).toArray⟩) ∧ Up w w' := by
  have hm := mul1_any k w (by omega)
  have hz := zs_cut k (by omega) w
  have k0 : (0 : Int) ≤ (k : Int) := by omega
  have k1 : (k : Int) ≤ 64 := by omega
  have k2 : (k : Int) ≤ 9223372036854775807 := by omega
  rcases Nat.lt_or_ge k 2 with h2 | h2
  · obtain rfl | rfl : k = 0 ∨ k = 1 := by omega
    · clear hm hz hk h2 k0 k1 k2
      go_enter Tryz.func38, Tryz.ntmps38
      go_wp2
      go_ret
      exact ⟨rfl, Up.refl _⟩
    · clear hm hz hk h2 k0 k1 k2
      go_enter Tryz.func38, Tryz.ntmps38
      go_wp2
      go_ret
      exact ⟨rfl, Up.refl _⟩
  · have n0 : ((k : Int) == 0) = false := by simp; omega
    have n1 : ((k : Int) == 1) = false := by simp; omega
    have n2 : decide ((9223372036854775807 : Int) < (k : Int)) = false := by simp; omega
    clear hk h2
    go_enter Tryz.func38, Tryz.ntmps38
    go_wp2_with fail
    refine hm.mono ?_
    rintro e w1 ⟨rfl, hw1⟩
    obtain rfl : w = w1 := hw1.symm
    clear hm
    go_wp2_with fail
    refine (prefix_one _ false w (by decide +kernel) (by decide +kernel)).mono ?_
    rintro e w2 ⟨rfl, hw2⟩
    obtain rfl : w = w2 := hw2.symm
    go_wp2_with fail
    refine (prefix_one _ false w (by decide +kernel) (by decide +kernel)).mono ?_
    rintro e w3 ⟨rfl, hw3⟩
    obtain rfl : w = w3 := hw3.symm
    go_wp2_with fail
    refine (prefix_one _ true w (by decide +kernel) (by decide +kernel)).mono ?_
    rintro e w4 ⟨rfl, hw4⟩
    obtain rfl : w = w4 := hw4.symm
    go_wp2
    go_ret
    exact ⟨rfl, Up.refl _⟩

theorem Name_any (x : Nat) (w : World) (hx : x < 18446744073709551616) (hT : w.cell? ⟨17, 15, none⟩ = some (.int .u8 4)) :
    Calls Tryz.prog 11 #[.int .u64 (x : Int)] w fun e w' => e = .returned (.string ⟨(nameB x).toArray⟩) ∧ Up w w' := by
  have hf := FormatUint16 x w hx hT
  have hl := hexB_length x hx
  obtain ⟨H, hH⟩ : ∃ H, hexB x = H := ⟨_, rfl⟩
  obtain ⟨K, hK⟩ : ∃ K : Nat, 16 - H.length = K := ⟨_, rfl⟩
  have hname : nameB x = [108, 111, 103, 46] ++ List.replicate K 48 ++ H := by unfold nameB; rw [hH, hK]
  rw [hH] at hf hl
  have e1 : (16 : Int) - (H.length : Int) = (K : Int) := by omega
  have hr := fun u => Repeat0 K u (by omega)
  have HN : Hid (nameB x = [108, 111, 103, 46] ++ List.replicate K 48 ++ H) := hname
  clear hx hT hl hH hK hname
  go_enter Tryz.func11, Tryz.ntmps11
  go_wp2_with fail
  refine hf.mono ?_
  rintro e w1 ⟨rfl, u1⟩
  clear hf
  have hr1 := hr w1
  clear hr
  go_wp2_with fail
  refine hr1.mono ?_
  rintro e w2 ⟨rfl, u2⟩
  clear hr1
  go_wp2
  go_ret
  refine ⟨?_, u1.trans u2⟩
  rw [HN.out]
  refine congrArg (fun b => Ending.returned (Value.string b)) (?_ : (⟨#[108, 111, 103, 46]⟩ : ByteArray) ++ ⟨Array.replicate K 48⟩ ++ ⟨H.toArray⟩ = _)
  apply ByteArray.ext
  simp
end Go.Proofs.YtkfjkfpodkbkaaaGreatDoor

set_option linter.unusedVariables false
namespace Go.Proofs.YtkfjkfpodkbkaaaGreatDoor
open Go Go.RowKit

def oneNm (nm : Nm) : Nm → Option Nat := fun x => if x = nm then some 0 else none
/-- A disk of one file, under one name that is safe; nothing waits but sectors. -/
def sgD (nm : Nm) (F : Fil) (ops ahead : Nat) (parts : Int → Option Int) (cut : Int) (room : Nat) : Dsk := ⟨[F], oneNm nm, oneNm nm, [], ops, false, ahead, parts, cut, room⟩
theorem sgD_ok (nm : Nm) (F : Fil) (hF : F.Ok) (ops ahead : Nat) (parts : Int → Option Int) (cut : Int) (room : Nat) (h1 : 1 ≤ room) (h2 : ops ≤ room) (h3 : ahead ≤ ops) : (sgD nm F ops ahead parts cut room).Ok where
  fil := fun f hf => by simp [sgD] at hf; subst hf; exact hF
  see := fun x i h => by simp [sgD, oneNm] at h; simp [sgD]; omega
  saf := fun x i h => by simp [sgD, oneNm] at h; simp [sgD]; omega
  chl := fun c hc => by simp [sgD] at hc
  chn := fun c hc => by simp [sgD] at hc
  chs := fun c hc => by simp [sgD] at hc
  num := by simp [sgD]; omega
theorem sgD_seen (nm : Nm) (F : Fil) (ops ahead : Nat) (parts : Int → Option Int) (cut : Int) (room : Nat) : (sgD nm F ops ahead parts cut room).seen nm = some 0 := by simp [sgD, oneNm]
theorem made_empty : (Fil.made ⟨[], []⟩).Ok := Fil.made_ok ⟨by simp, by simp, by simp⟩

theorem new_create (nm : Nm) (h : nm ≠ []) (h64 : nm.length ≤ 64) : (Dsk.new.create nm).syncNames = sgD nm (Fil.made ⟨[], []⟩) 2 0 (fun _ => none) 0 3 ∧ Dsk.new.fate = .goes ∧ (Dsk.new.create nm).fate = .goes ∧ (Dsk.new.create nm).chg = [⟨[], nm, some 0⟩] ∧ (Dsk.new.create nm).down = false ∧ (Dsk.new.create nm).Ok ∧ (Dsk.new.create nm).room = 2 := by
  have f0 : Dsk.new.fate = .goes := by simp [Dsk.fate, Dsk.new]
  have hc : Dsk.new.create nm = Dsk.new.counted.made nm := by simp [Dsk.create, f0]
  have hd : Dsk.new.counted = ⟨[], fun _ => none, fun _ => none, [], 1, false, 0, fun _ => none, 0, 1⟩ := by simp [Dsk.counted, f0, Fate.isCut]; simp [Dsk.new]
  have h1 : upd (upd (fun _ => none) [] none) nm (some 0) = oneNm nm := by
    funext x
    simp only [upd, oneNm]
    split
    · rfl
    · split <;> rfl
  have hc2 : Dsk.new.create nm = ⟨[Fil.made ⟨[], []⟩], oneNm nm, fun _ => none, [⟨[], nm, some 0⟩], 1, false, 0, fun _ => none, 0, 2⟩ := by
    rw [hc, hd]
    simp [Dsk.made, Dsk.alter, Chg.app, h, h1]
  have f1 : (Dsk.new.create nm).fate = .goes := by rw [hc2]; simp [Dsk.fate]
  refine ⟨?_, f0, f1, by rw [hc2], by rw [hc2], ?_, by rw [hc2]⟩
  · have : (Dsk.new.create nm).syncNames = (Dsk.new.create nm).counted.named := by simp [Dsk.syncNames, f1]
    rw [this]
    have hk : (Dsk.new.create nm).counted = ⟨[Fil.made ⟨[], []⟩], oneNm nm, fun _ => none, [⟨[], nm, some 0⟩], 2, false, 0, fun _ => none, 0, 3⟩ := by
      simp [Dsk.counted, f1, Fate.isCut]; simp [hc2]
    rw [hk]
    simp [Dsk.named, Chg.app, h, h1, sgD]
  · rw [hc2]
    exact ⟨fun f hf => by simp at hf; subst hf; exact made_empty, fun x i hx => by simp [oneNm] at hx; simp; omega, fun x i hx => by simp at hx, fun c hc i hi => by simp at hc; subst hc; simp at hi; simp; omega, fun c hc hn => by simp at hc; subst hc; simp, fun c hc => by simp at hc; subst hc; simpa using h64, by simp⟩

theorem sg_counted (nm : Nm) (F : Fil) (ops ahead : Nat) (parts : Int → Option Int) (cut : Int) (room : Nat) (h : (sgD nm F ops ahead parts cut room).fate.isCut = false) : (sgD nm F ops ahead parts cut room).counted = sgD nm F (ops + 1) ahead parts cut (room + 1) := by
  simp [Dsk.counted, h]; simp [sgD]
theorem sg_at (nm : Nm) (F : Fil) (f : Fil → Fil) (ops ahead : Nat) (parts : Int → Option Int) (cut : Int) (room : Nat) : (sgD nm F ops ahead parts cut room).at 0 f = sgD nm (f F) ops ahead parts cut room := by
  simp [Dsk.at, sgD]
theorem sg_append (nm : Nm) (F : Fil) (d : List UInt8) (ops ahead : Nat) (parts : Int → Option Int) (cut : Int) (room : Nat) (h : (sgD nm F ops ahead parts cut room).fate = .goes) : (sgD nm F ops ahead parts cut room).append 0 d = sgD nm (F.add d) (ops + 1) ahead parts cut (room + 1) := by
  have e := sg_counted nm F ops ahead parts cut room (by rw [h]; rfl)
  simp only [Dsk.append, h, e, sg_at]
theorem sg_appendF (nm : Nm) (F : Fil) (d : List UInt8) (p : Int) (ops ahead : Nat) (parts : Int → Option Int) (cut : Int) (room : Nat) (h : (sgD nm F ops ahead parts cut room).fate = .fails p) : (sgD nm F ops ahead parts cut room).append 0 d = sgD nm (F.add (partOf p d)) (ops + 1) ahead parts cut (room + 1) := by
  have e := sg_counted nm F ops ahead parts cut room (by rw [h]; rfl)
  simp only [Dsk.append, h, e, sg_at]
theorem sg_sync (nm : Nm) (F : Fil) (ops ahead : Nat) (parts : Int → Option Int) (cut : Int) (room : Nat) (h : (sgD nm F ops ahead parts cut room).fate = .goes) : (sgD nm F ops ahead parts cut room).sync 0 = sgD nm F.sync (ops + 1) ahead parts cut (room + 1) := by
  have e := sg_counted nm F ops ahead parts cut room (by rw [h]; rfl)
  simp only [Dsk.sync, h, e, sg_at]
theorem sg_syncF (nm : Nm) (F : Fil) (p : Int) (ops ahead : Nat) (parts : Int → Option Int) (cut : Int) (room : Nat) (h : (sgD nm F ops ahead parts cut room).fate = .fails p) : (sgD nm F ops ahead parts cut room).sync 0 = sgD nm F (ops + 1) ahead parts cut (room + 1) := by
  have e := sg_counted nm F ops ahead parts cut room (by rw [h]; rfl)
  simp only [Dsk.sync, h, e]
/-- Nothing is armed: each operation goes. -/
theorem sg_goes (nm : Nm) (F : Fil) (ops : Nat) (room : Nat) : (sgD nm F ops 0 (fun _ => none) 0 room).fate = .goes := by
  have : ¬ ((ops : Int) + 1 = 0) := by omega
  simp [Dsk.fate, sgD, this]
end Go.Proofs.YtkfjkfpodkbkaaaGreatDoor
