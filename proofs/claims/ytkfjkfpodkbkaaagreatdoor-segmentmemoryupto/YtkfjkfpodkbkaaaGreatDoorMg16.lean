/- Merged: Errs, DkMod, DkDisk. -/
import Derived.Test.YtkfjkfpodkbkaaaGreatDoorMg15
import Derived.LaidEql
import Derived.Test.YtkfjkfpodkbkaaaGreatDoorMg12
set_option linter.unusedVariables false
namespace Go.Proofs.YtkfjkfpodkbkaaaGreatDoor
open Go Go.RowKit

theorem Tryz.cmpErr : (Tryz.prog.info? 243).map (·.comparable) = some true := by kernel_rfl
theorem Tryz.sizeErr : (Tryz.prog.info? 245).map (·.size) = some 1 := by kernel_rfl

theorem eq_same (a : Addr) (u : World) : (binOp .eql 40 (E a) (E a)).run Tryz.prog u = .ok (.bool true) u := by
  obtain ⟨i, hi, hc⟩ := Option.map_eq_some_iff.1 Tryz.cmpErr
  obtain ⟨j, hj, hs⟩ := Option.map_eq_some_iff.1 Tryz.sizeErr
  exact run_eql_iface_ptr_same u a Tryz.underlying40 Tryz.underlying243 hi hc hj
theorem neq_same (a : Addr) (u : World) : (binOp .neq 40 (E a) (E a)).run Tryz.prog u = .ok (.bool false) u := by
  obtain ⟨i, hi, hc⟩ := Option.map_eq_some_iff.1 Tryz.cmpErr
  obtain ⟨j, hj, hs⟩ := Option.map_eq_some_iff.1 Tryz.sizeErr
  simp only [binOp]
  simp [Op.equal, Op.maxDepth, run_equalIn_iface_ptr_same u 9998 a Tryz.underlying40 Tryz.underlying243 hi hc hj]

theorem ErrAt.ne {w : World} {a b : Addr} {s t : List UInt8} (ha : ErrAt w a s) (hb : ErrAt w b t) (h : s ≠ t) : a ≠ b := by
  rintro rfl
  obtain ⟨x, hx, hx2⟩ := ha.cell
  obtain ⟨y, hy, hy2⟩ := hb.cell
  rw [hx] at hy
  simp at hy
  subst hy
  exact h (hx2.symm.trans hy2)

theorem eq_other {a b : Addr} {u : World} {s t : List UInt8} (ha : ErrAt u a s) (hb : ErrAt u b t) (h : s ≠ t) : (binOp .eql 40 (E a) (E b)).run Tryz.prog u = .ok (.bool false) u := by
  obtain ⟨i, hi, hc⟩ := Option.map_eq_some_iff.1 Tryz.cmpErr
  obtain ⟨j, hj, hs⟩ := Option.map_eq_some_iff.1 Tryz.sizeErr
  obtain ⟨c, t1, h1⟩ := ha.block
  obtain ⟨d, t2, h2⟩ := hb.block
  exact run_eql_iface_ptr_other u Tryz.underlying40 Tryz.underlying243 hi hc hj (by rw [hs]; decide) (ha.ne hb h) h1 h2
theorem neq_other {a b : Addr} {u : World} {s t : List UInt8} (ha : ErrAt u a s) (hb : ErrAt u b t) (h : s ≠ t) : (binOp .neq 40 (E a) (E b)).run Tryz.prog u = .ok (.bool true) u := by
  obtain ⟨i, hi, hc⟩ := Option.map_eq_some_iff.1 Tryz.cmpErr
  obtain ⟨j, hj, hs⟩ := Option.map_eq_some_iff.1 Tryz.sizeErr
  obtain ⟨c, t1, h1⟩ := ha.block
  obtain ⟨d, t2, h2⟩ := hb.block
  simp only [binOp]
  simp [Op.equal, Op.maxDepth, run_equalIn_iface_ptr_other u 9998 Tryz.underlying40 Tryz.underlying243 hi hc hj (by rw [hs]; decide) (ha.ne hb h) h1 h2]

theorem ErrAt.lt {w : World} {a : Addr} {s : List UInt8} (h : ErrAt w a s) : a.block < w.heap.size := by
  obtain ⟨c, t, h⟩ := h.block
  exact (Array.getElem?_eq_some_iff.1 h).1
theorem ErrAt.up {w w' : World} {a : Addr} {s : List UInt8} (h : ErrAt w a s) (hu : Up w w') : ErrAt w' a s := by
  have hl := h.lt
  obtain ⟨⟨x, hx, hx2⟩, c, t, hb⟩ := h
  exact ⟨⟨x, (hu.cell hl).trans hx, hx2⟩, c, t, (hu.block _ hl).trans hb⟩
theorem ErrAt.but {w w' : World} {a : Addr} {s : List UInt8} {r : Nat} (h : ErrAt w a s) (hr : a.block ≠ r) (hu : But r w w') : ErrAt w' a s := by
  have hl := h.lt
  obtain ⟨⟨x, hx, hx2⟩, c, t, hb⟩ := h
  exact ⟨⟨x, hu.cell hx (by simpa using hr), hx2⟩, c, t, (hu.block _ hl (by simpa using hr)).trans hb⟩
theorem ErrAt.apart {base : Nat} {w : World} {a : Addr} {s : List UInt8} {r : Nat} {bs : List UInt8} {fv : Value} (h : ErrAt w a s) (hr : Rdr base w r bs fv) (hf : isF fv) : a.block ≠ r := by
  rintro rfl
  obtain ⟨x, hx, _⟩ := h.cell
  obtain ⟨v, hv, hs⟩ := hr
  obtain ⟨ao, cap, rfl, _⟩ := hs
  simp only [World.cell?, hv] at hx
  split at hx
  · cases hx
  · match a.off, hx with
    | 0, hx => simp at hx
    | 1, hx =>
      simp at hx
      rcases hf with rfl | ⟨b, rfl⟩
      · cases hx
      · cases hx
    | n + 2, hx => simp at hx

/-- The package variables of the set S hold their errors at the addresses that ad tells. -/
def ErrSet (S : List Nat) (txt : Nat → List UInt8) (w : World) (ad : Nat → Addr) : Prop := ∀ g, g ∈ S → Gl w g (ad g) ∧ ErrAt w (ad g) (txt g)
theorem ErrSet.up {S : List Nat} {txt : Nat → List UInt8} {w w' : World} {ad : Nat → Addr} (h : ErrSet S txt w ad) (hu : Up w w') : ErrSet S txt w' ad := fun g hg => ⟨(h g hg).1.up hu, (h g hg).2.up hu⟩
theorem ErrSet.rdr {base : Nat} {S : List Nat} {txt : Nat → List UInt8} {w w' : World} {ad : Nat → Addr} {r : Nat} {bs : List UInt8} {fv : Value} (h : ErrSet S txt w ad) (hr : Rdr base w r bs fv) (hf : isF fv) (hb : But r w w') : ErrSet S txt w' ad :=
  fun g hg => ⟨(h g hg).1.but (gl_ne (h g hg).1 hr) hb, (h g hg).2.but ((h g hg).2.apart hr hf) hb⟩

theorem ErrSet.errs {S : List Nat} {txt : Nat → List UInt8} {w : World} {ad : Nat → Addr} (h : ErrSet S txt w ad) (h1 : 9 ∈ S) (h2 : 10 ∈ S) (h3 : 6 ∈ S) :
    Errs w (ad 9) (ad 10) (ad 6) := ⟨(h _ h1).1, (h _ h2).1, (h _ h3).1⟩

/-! What Number takes is what PutNumber puts, and nothing else. -/
theorem numR_vnF (aS aF : Addr) (rest : List UInt8) : ∀ f i acc x, i + f = 10 → x < 2 ^ (64 - 7 * i) → (0 < i → 0 < x) → numR aS aF i acc (vnF f x ++ rest) = (acc + 2 ^ (7 * i) * x, i + (vnF f x).length, .nilIface) := by
  intro f
  induction f with
  | zero =>
    intro i acc x hi hx hp
    obtain rfl : i = 10 := by omega
    have := hp (by omega)
    simp at hx
    omega
  | succ f ih =>
    intro i acc x hi hx hp
    unfold vnF
    by_cases h : x < 128
    · rw [if_pos h]
      have ht : (UInt8.ofNat x).toNat = x := by rw [UInt8.toNat_ofNat']; omega
      have hb : ¬ ((0 < i ∧ x = 0) ∨ (i = 9 ∧ 1 < x)) := by
        rintro (⟨a, b⟩ | ⟨rfl, b⟩)
        · have := hp a; omega
        · simp at hx; omega
      simp only [List.cons_append, List.nil_append, numR, ht, if_neg hb, if_pos h, List.length_singleton]
      rw [Nat.mod_eq_of_lt h]
    · rw [if_neg h]
      have hm : x % 128 < 128 := Nat.mod_lt _ (by omega)
      have ht : (UInt8.ofNat (x % 128 + 128)).toNat = x % 128 + 128 := by rw [UInt8.toNat_ofNat']; omega
      have hi9 : i ≠ 9 := by rintro rfl; simp at hx; omega
      have hb : ¬ ((0 < i ∧ x % 128 + 128 = 0) ∨ (i = 9 ∧ 1 < x % 128 + 128)) := by omega
      have e : 2 ^ (7 * (i + 1)) = 2 ^ (7 * i) * 128 := by rw [show 7 * (i + 1) = 7 * i + 7 by omega, Nat.pow_add]
      have e2 : 2 ^ (64 - 7 * i) = 2 ^ (64 - 7 * (i + 1)) * 128 := by rw [show 64 - 7 * i = (64 - 7 * (i + 1)) + 7 by omega, Nat.pow_add]
      have hx' : x / 128 < 2 ^ (64 - 7 * (i + 1)) := by
        rw [e2] at hx
        exact Nat.div_lt_of_lt_mul (by rwa [Nat.mul_comm] at hx)
      simp only [List.cons_append, numR, ht, if_neg hb, if_neg (show ¬ x % 128 + 128 < 128 by omega)]
      rw [ih (i + 1) _ (x / 128) (by omega) hx' (fun _ => by omega)]
      simp only [List.length_cons]
      congr 1
      · rw [e]
        have e3 : (x % 128 + 128) % 128 = x % 128 := by omega
        have e4 : x = x % 128 + 128 * (x / 128) := by omega
        rw [e3, Nat.add_assoc]
        congr 1
        rw [Nat.mul_assoc, ← Nat.mul_add, ← e4]
      · congr 1; omega

/-- Bytes that begin as PutNumber puts x: Number answers x. -/
theorem numR_vn (aS aF : Addr) (x : Nat) (rest : List UInt8) (hx : x < 2 ^ 64) : numR aS aF 0 0 (vn x ++ rest) = (x, (vn x).length, .nilIface) := by
  have h := numR_vnF aS aF rest 10 0 0 x (by omega) (by simpa using hx) (by omega)
  simpa [vn] using h

theorem numR_inv (aS aF : Addr) (bs : List UInt8) : ∀ i acc X n, i ≤ 9 → numR aS aF i acc bs = (X, n, .nilIface) → ∃ x k, X = acc + 2 ^ (7 * i) * x ∧ n = i + k ∧ bs.take k = vnF (10 - i) x ∧ (0 < i → 0 < x) := by
  induction bs with
  | nil => intro i acc X n _ h; simp [numR] at h
  | cons c r ih =>
    intro i acc X n hi h
    unfold numR at h
    by_cases hb : (0 < i ∧ c.toNat = 0) ∨ (i = 9 ∧ 1 < c.toNat)
    · rw [if_pos hb] at h; simp at h
    · rw [if_neg hb] at h
      obtain ⟨f, hf⟩ : ∃ f, 10 - i = f + 1 := ⟨9 - i, by omega⟩
      by_cases hs : c.toNat < 128
      · rw [if_pos hs] at h
        simp only [Prod.mk.injEq] at h
        obtain ⟨rfl, rfl, _⟩ := h
        refine ⟨c.toNat, 1, by rw [Nat.mod_eq_of_lt hs], rfl, ?_, fun h0 => by omega⟩
        rw [hf]
        simp [vnF, hs]
      · rw [if_neg hs] at h
        obtain ⟨x, k, h1, h2, h3, h4⟩ := ih (i + 1) _ X n (by omega) h
        have hx := h4 (by omega)
        have e : 2 ^ (7 * (i + 1)) = 2 ^ (7 * i) * 128 := by rw [show 7 * (i + 1) = 7 * i + 7 by omega, Nat.pow_add]
        have hc := c.toNat_lt
        refine ⟨c.toNat % 128 + 128 * x, k + 1, ?_, by omega, ?_, fun _ => by omega⟩
        · rw [h1, e, Nat.add_assoc]
          congr 1
          rw [Nat.mul_assoc, ← Nat.mul_add]
        · rw [List.take_succ_cons, h3, hf, vnF, if_neg (by omega), show 10 - (i + 1) = f by omega]
          congr 1
          · apply UInt8.toNat.inj
            rw [UInt8.toNat_ofNat']; omega
          · congr 1; omega

theorem numR_take (aS aF : Addr) (bs : List UInt8) (x n : Nat) (h : numR aS aF 0 0 bs = (x, n, .nilIface)) : bs.take n = vn x := by
  obtain ⟨y, k, h1, h2, h3, _⟩ := numR_inv aS aF bs 0 0 x n (by omega) h
  obtain rfl : x = y := by simpa using h1
  obtain rfl : n = k := by omega
  exact h3
end Go.Proofs.YtkfjkfpodkbkaaaGreatDoor

set_option linter.unusedVariables false
namespace Go.Proofs.YtkfjkfpodkbkaaaGreatDoor
open Go Go.RowKit

structure Chg where
  frm : Nm
  tt : Nm
  file : Option Nat
def Chg.app (c : Chg) (m : Nm → Option Nat) : Nm → Option Nat := if c.tt = [] then upd m c.frm none else upd (upd m c.frm none) c.tt c.file

/-- A disk: files are told by their place in fs. -/
structure Dsk where
  fs : List Fil
  seen : Nm → Option Nat
  safe : Nm → Option Nat
  chg : List Chg
  ops : Nat
  down : Bool
  ahead : Nat
  parts : Int → Option Int
  cut : Int
  room : Nat

def Dsk.new : Dsk := ⟨[], fun _ => none, fun _ => none, [], 0, false, 0, fun _ => none, 0, 0⟩

/-- What befalls the next operation. -/
inductive Fate
  | goes
  | fails (part : Int)
  | cut
def Dsk.fate (D : Dsk) : Fate :=
  if ((D.ops : Int) + 1 - (D.ahead : Int)) = D.cut then .cut else match D.parts ((D.ops : Int) + 1 - (D.ahead : Int)) with
    | some p => .fails p
    | none => .goes
def Fate.isCut : Fate → Bool
  | .cut => true
  | _ => false
def Dsk.counted (D : Dsk) : Dsk := { D with ops := D.ops + 1, room := D.room + 1, down := D.fate.isCut }

def partOf (p : Int) (d : List UInt8) : List UInt8 := d.take (max 0 (min p d.length)).toNat
def Dsk.alter (D : Dsk) (c : Chg) : Dsk := { D with seen := c.app D.seen, chg := D.chg ++ [c], room := D.room + 1 }
def Dsk.made (D : Dsk) (x : Nm) : Dsk := { D with fs := D.fs ++ [Fil.made ⟨[], []⟩] }.alter ⟨[], x, some D.fs.length⟩
def Dsk.at (D : Dsk) (i : Nat) (f : Fil → Fil) : Dsk := { D with fs := D.fs.modify i f }
def Dsk.named (D : Dsk) : Dsk := { D with safe := D.chg.foldl (fun m c => c.app m) D.safe, chg := [] }

def Dsk.create (D : Dsk) (x : Nm) : Dsk := match D.fate with
  | .fails _ => D.counted
  | _ => D.counted.made x
def Dsk.append (D : Dsk) (i : Nat) (d : List UInt8) : Dsk := match D.fate with
  | .fails p => D.counted.at i (·.add (partOf p d))
  | _ => D.counted.at i (·.add d)
def Dsk.sync (D : Dsk) (i : Nat) : Dsk := match D.fate with
  | .goes => D.counted.at i (·.sync)
  | _ => D.counted
def Dsk.trunc (D : Dsk) (i : Nat) (n : Nat) : Dsk := match D.fate with
  | .goes => D.counted.at i (·.cut n)
  | _ => D.counted
def Dsk.syncNames (D : Dsk) : Dsk := match D.fate with
  | .goes => D.counted.named
  | _ => D.counted

/-- The answer of an operation that isn't refused. -/
def Fate.err (ad : Nat → Addr) : Fate → Value
  | .goes => .nilIface
  | .fails _ => E (ad 0)
  | .cut => E (ad 1)

/-- In form: the names lead to files that are there; all files are in form; numbers are small. -/
structure Dsk.Ok (D : Dsk) : Prop where
  fil : ∀ f ∈ D.fs, f.Ok
  see : ∀ x i, D.seen x = some i → i < D.fs.length
  saf : ∀ x i, D.safe x = some i → i < D.fs.length
  chl : ∀ c ∈ D.chg, ∀ i, c.file = some i → i < D.fs.length
  chn : ∀ c ∈ D.chg, c.tt ≠ [] → c.file ≠ none
  chs : ∀ c ∈ D.chg, c.frm.length ≤ 64 ∧ c.tt.length ≤ 64
  num : D.fs.length ≤ D.room ∧ D.ops ≤ D.room ∧ D.ahead ≤ D.ops ∧ D.chg.length ≤ D.room

end Go.Proofs.YtkfjkfpodkbkaaaGreatDoor

set_option linter.unusedVariables false
namespace Go.Proofs.YtkfjkfpodkbkaaaGreatDoor
open Go Go.RowKit Go.Maps

/-- What is armed: a map from numbers to parts, or none. -/
def PartsIs (w : World) (mp : Option Nat) (p : Int → Option Int) : Prop :=
  match mp with
  | none => ∀ k, p k = none
  | some b => ∃ D n, w.ownsMap Tryz.prog 3 (plainElem (H := Unit) Tryz.prog 3) b n D ∧ ∀ k : Int, D.atKey (.int .i64 k) (.lit (.int .i64 0)) = .lit (.int .i64 ((p k).getD 0)) ∧ Maps.has D (.int .i64 k) = (p k).isSome
theorem intLaw : Keyed Tryz.prog 3 := int_keyed Tryz.underlying3
theorem zeroInt (u : World) : (zeroValue 3).run Tryz.prog u = .ok (.int .i64 0) u := by kernel_rfl
theorem PartsIs.kept {w w' : World} {mp : Option Nat} {p : Int → Option Int} {S : List Nat} (h : PartsIs w mp p) (t : Touch w w' S) (hb : ∀ k, mp = some k → k ∉ S) : PartsIs w' mp p := by
  cases mp with
  | none => exact h
  | some b =>
    obtain ⟨D, n, h, k⟩ := h
    have hl := h.lt
    obtain ⟨es, clock, hx, r⟩ := h
    exact ⟨D, n, ⟨es, clock, (t.block b hl (hb b rfl)).trans hx, r⟩, k⟩
theorem PartsIs.lt {w : World} {b : Nat} {p : Int → Option Int} (h : PartsIs w (some b) p) : b < w.heap.size := by obtain ⟨D, n, h, k⟩ := h; exact h.lt
theorem PartsIs.look {w : World} {mp : Option Nat} {p : Int → Option Int} (h : PartsIs w mp p) (k : Int) (hk : (Lit.int .i64 k).wf = true) :
    (Instr.lookup 81 (.map mp) (.int .i64 k) true).run Tryz.prog w = .ok (.tuple #[.int .i64 ((p k).getD 0), .bool (p k).isSome]) w := by
  cases mp with
  | none =>
    have hp : p k = none := h k
    rw [hp]
    have := Maps.look_nil (w := w) true intLaw Tryz.underlying81 (zeroInt w) (keyOf_int_mk Tryz.underlying3 hk)
    simpa using this
  | some b =>
    obtain ⟨D, n, h, r⟩ := h
    obtain ⟨v, ps, hr, hv⟩ := h.look_ok intLaw Tryz.underlying81 (zeroInt w) (plainElem_int Tryz.underlying3 (by decide)) (keyOf_int_mk Tryz.underlying3 hk)
    rw [(r k).1] at hv
    obtain ⟨c, rfl, hc, _⟩ := plainElem_int_inv Tryz.underlying3 hv
    simp only [Prod.mk.injEq, DataW.lit.injEq, Lit.int.injEq, true_and] at hc
    rw [hr, (r k).2, ← hc.1]

abbrev Fls := List (Nat × List Nat)
/-- The block of the file of this place. -/
def blk (fl : Fls) (i : Nat) : Nat := (fl.getD i (0, [])).1
def nmap (fl : Fls) (m : Nm → Option Nat) : Nm → Option Nat := fun x => (m x).map (blk fl)
def ccells (fl : Fls) (c : Chg) : List Value := [Sv c.frm, Sv c.tt, Pv1 (c.file.map (blk fl))]
abbrev dcells (bs bf : Nat) (vch : Value) (D : Dsk) (mp : Option Nat) : Array Value :=
  #[.map (some bs), .map (some bf), vch, .int .i64 (D.fs.length : Int), .int .i64 (D.ops : Int), .bool D.down, .int .i64 (D.ahead : Int), .map mp, .int .i64 D.cut]
/-- All blocks of a disk. -/
abbrev dl (db bs bf : Nat) (vch : Value) (mp : Option Nat) (fl : Fls) : List Nat := db :: bs :: bf :: (ob vch ++ (mp.toList ++ fl.flatMap (·.2)))

structure DiskV (w : World) (base db : Nat) (D : Dsk) (bs bf : Nat) (vch : Value) (mp : Option Nat) (fl : Fls) : Prop where
  box : Box w db (dcells bs bf vch D mp)
  see : MapIs w bs D.room (nmap fl D.seen)
  saf : ∃ n, n + D.chg.length ≤ D.room ∧ MapIs w bf n (nmap fl D.safe)
  chg : w.ownsRow base 138 3 vch D.chg.length (D.chg.flatMap (ccells fl))
  prt : PartsIs w mp D.parts
  len : fl.length = D.fs.length
  fil : ∀ (i : Nat) (F : Fil), D.fs[i]? = some F → ∃ p, fl[i]? = some p ∧ FileAt w base p.1 ((i : Int) + 1) F p.2
  nd : (dl db bs bf vch mp fl).Nodup
  ge : ∀ k ∈ dl db bs bf vch mp fl, base ≤ k
def DiskAt (w : World) (base db : Nat) (D : Dsk) (L : List Nat) : Prop := ∃ bs bf vch mp fl, DiskV w base db D bs bf vch mp fl ∧ L = dl db bs bf vch mp fl

theorem FileAt.lt {w : World} {base fb : Nat} {age : Int} {F : Fil} {L : List Nat} (h : FileAt w base fb age F L) : ∀ k ∈ L, k < w.heap.size := by
  obtain ⟨_, _, _, _, h, rfl⟩ := h; exact h.lt
theorem FileAt.nd {w : World} {base fb : Nat} {age : Int} {F : Fil} {L : List Nat} (h : FileAt w base fb age F L) : L.Nodup := by
  obtain ⟨_, _, _, _, h, rfl⟩ := h; exact h.nd
theorem FileAt.head {w : World} {base fb : Nat} {age : Int} {F : Fil} {L : List Nat} (h : FileAt w base fb age F L) : fb ∈ L := by
  obtain ⟨_, _, _, _, h, rfl⟩ := h; simp

theorem DiskV.lt {w : World} {base db : Nat} {D : Dsk} {bs bf : Nat} {vch : Value} {mp : Option Nat} {fl : Fls} (h : DiskV w base db D bs bf vch mp fl) : ∀ k ∈ dl db bs bf vch mp fl, k < w.heap.size := by
  intro k hk
  simp only [List.mem_cons, List.mem_append] at hk
  rcases hk with rfl | rfl | rfl | hk | hk | hk
  · exact h.box.lt
  · exact h.see.lt
  · obtain ⟨n, _, q⟩ := h.saf; exact q.lt
  · exact (World.ownsRow.lt h.chg k (mem_ob.1 hk)).2
  · cases mp with
    | none => simp at hk
    | some b => simp at hk; subst hk; exact h.prt.lt
  · obtain ⟨p, hp, hm⟩ := List.mem_flatMap.1 hk
    obtain ⟨i, hi, e⟩ := List.mem_iff_getElem.1 hp
    have hi2 : i < D.fs.length := h.len ▸ hi
    obtain ⟨q, hq, hf⟩ := h.fil i D.fs[i] (List.getElem?_eq_getElem hi2)
    rw [List.getElem?_eq_getElem hi, e] at hq
    cases hq
    exact hf.lt k hm
theorem DiskV.file {w : World} {base db : Nat} {D : Dsk} {bs bf : Nat} {vch : Value} {mp : Option Nat} {fl : Fls} (h : DiskV w base db D bs bf vch mp fl) {i : Nat} {F : Fil} (hi : D.fs[i]? = some F) : ∃ L, fl[i]? = some (blk fl i, L) ∧ FileAt w base (blk fl i) ((i : Int) + 1) F L := by
  obtain ⟨⟨a, L⟩, hp, hf⟩ := h.fil i F hi
  have e : blk fl i = a := by simp [blk, List.getD, hp]
  exact ⟨L, by rw [e]; exact hp, by rw [e]; exact hf⟩

/-- A disk that nothing touches is there. -/
theorem DiskV.kept {w w' : World} {base db : Nat} {D : Dsk} {bs bf : Nat} {vch : Value} {mp : Option Nat} {fl : Fls} {S : List Nat} (h : DiskV w base db D bs bf vch mp fl) (t : Touch w w' S) (hS : ∀ k ∈ dl db bs bf vch mp fl, k ∉ S) : DiskV w' base db D bs bf vch mp fl where
  box := t.box h.box (hS _ (by simp))
  see := h.see.kept t (hS _ (by simp))
  saf := by obtain ⟨n, q, r⟩ := h.saf; exact ⟨n, q, r.kept t (hS _ (by simp))⟩
  chg := Touch.row h.chg t (fun k hk => hS k (by simp [mem_ob.2 hk]))
  prt := h.prt.kept t (fun k hk => hS k (by simp [hk]))
  len := h.len
  fil := fun i F hi => by
    obtain ⟨p, hp, hf⟩ := h.fil i F hi
    exact ⟨p, hp, hf.kept t (fun k hk => hS k (by
      have : k ∈ fl.flatMap (·.2) := List.mem_flatMap.2 ⟨p, List.mem_of_getElem? hp, hk⟩
      simp [this]))⟩
  nd := h.nd
  ge := h.ge

/-- Other numbers in the disk's own struct. -/
theorem DiskV.rebox {w w' : World} {base db : Nat} {D : Dsk} {bs bf : Nat} {vch : Value} {mp : Option Nat} {fl : Fls} {D' : Dsk} (h : DiskV w base db D bs bf vch mp fl) (t : Touch w w' [db]) (hb : Box w' db (dcells bs bf vch D' mp)) (h1 : D'.fs = D.fs) (h2 : D'.seen = D.seen) (h3 : D'.safe = D.safe) (h4 : D'.chg = D.chg) (h5 : D'.parts = D.parts) (h6 : D.room ≤ D'.room) :
    DiskV w' base db D' bs bf vch mp fl := by
  have nd := h.nd
  rw [List.nodup_cons] at nd
  have hne : ∀ k ∈ bs :: bf :: (ob vch ++ (mp.toList ++ fl.flatMap (·.2))), k ∉ [db] := fun k hk hm => by
    simp only [List.mem_singleton] at hm
    subst hm
    exact nd.1 hk
  refine ⟨hb, ?_, ?_, ?_, ?_, ?_, fun i F hi => ?_, h.nd, h.ge⟩
  · rw [h2]; exact (h.see.kept t (hne _ (by simp))).mono h6
  · obtain ⟨n, q, r⟩ := h.saf; rw [h3, h4]; exact ⟨n, by omega, r.kept t (hne _ (by simp))⟩
  · rw [h4]; exact Touch.row h.chg t (fun k hk => hne k (by simp [mem_ob.2 hk]))
  · rw [h5]; exact h.prt.kept t (fun k hk => hne k (by simp [hk]))
  · rw [h1]; exact h.len
  · rw [h1] at hi
    obtain ⟨p, hp, hf⟩ := h.fil i F hi
    exact ⟨p, hp, hf.kept t (fun k hk => hne k (by
      have : k ∈ fl.flatMap (·.2) := List.mem_flatMap.2 ⟨p, List.mem_of_getElem? hp, hk⟩
      simp [this]))⟩

theorem blk_set (fl : Fls) (i : Nat) (L : List Nat) (j : Nat) : blk (fl.set i (blk fl i, L)) j = blk fl j := by
  unfold blk
  simp only [List.getD, List.getElem?_set]
  split
  · rename_i e
    subst e
    split <;> rename_i hl
    · rfl
    · simp [List.getElem?_eq_none (Nat.le_of_not_lt hl)]
  · rfl
theorem nmap_set (fl : Fls) (i : Nat) (L : List Nat) (m : Nm → Option Nat) : nmap (fl.set i (blk fl i, L)) m = nmap fl m := by
  funext x; simp only [nmap]; cases m x <;> simp [blk_set]
theorem ccells_set (fl : Fls) (i : Nat) (L : List Nat) (c : Chg) : ccells (fl.set i (blk fl i, L)) c = ccells fl c := by
  simp only [ccells]; cases c.file <;> simp [blk_set]

theorem flat_split {fl : Fls} {i : Nat} {p : Nat × List Nat} (h : fl[i]? = some p) : fl.flatMap (·.2) = (fl.take i).flatMap (·.2) ++ (p.2 ++ (fl.drop (i + 1)).flatMap (·.2)) := by
  obtain ⟨hi, rfl⟩ := List.getElem?_eq_some_iff.1 h
  conv => lhs; rw [← List.take_append_drop i fl, List.drop_eq_getElem_cons hi]
  rw [List.flatMap_append, List.flatMap_cons]

/-- One of its files is changed, and nothing else. -/
theorem DiskV.at {w w' : World} {base db : Nat} {D : Dsk} {bs bf : Nat} {vch : Value} {mp : Option Nat} {fl : Fls} {i : Nat} {F : Fil} {L L' : List Nat} {f : Fil → Fil} (h : DiskV w base db D bs bf vch mp fl) (hi : D.fs[i]? = some F) (hp : fl[i]? = some (blk fl i, L)) (hf : FileAt w' base (blk fl i) ((i : Int) + 1) (f F) L') (t : Touch w w' L) (hn : ∀ k ∈ L', k ∈ L ∨ w.heap.size ≤ k) (hbase : base ≤ w.heap.size) :
    DiskV w' base db (D.at i f) bs bf vch mp (fl.set i (blk fl i, L')) ∧ (∀ k ∈ dl db bs bf vch mp (fl.set i (blk fl i, L')), k ∈ dl db bs bf vch mp fl ∨ w.heap.size ≤ k) := by
  have hlt := h.lt
  have hs1 := flat_split hp
  have hil : i < fl.length := (List.getElem?_eq_some_iff.1 hp).1
  have hset : (fl.set i (blk fl i, L'))[i]? = some (blk fl i, L') := by rw [List.getElem?_set_self hil]
  have hs2 := flat_split hset
  rw [List.take_set_of_le (Nat.le_refl i), List.drop_set_of_lt (Nat.lt_succ_self i)] at hs2
  have nd := h.nd
  have hA : dl db bs bf vch mp fl = (db :: bs :: bf :: (ob vch ++ (mp.toList ++ (fl.take i).flatMap (·.2)))) ++ L ++ (fl.drop (i + 1)).flatMap (·.2) := by
    simp [dl, hs1]
  have hB : dl db bs bf vch mp (fl.set i (blk fl i, L')) = (db :: bs :: bf :: (ob vch ++ (mp.toList ++ (fl.take i).flatMap (·.2)))) ++ L' ++ (fl.drop (i + 1)).flatMap (·.2) := by
    simp [dl, hs2]
  have nd2 := nd
  rw [hA] at nd2
  have hout : ∀ k ∈ (db :: bs :: bf :: (ob vch ++ (mp.toList ++ (fl.take i).flatMap (·.2)))), k ∉ L := by
    rw [List.nodup_append, List.nodup_append] at nd2
    exact fun k hk hm => nd2.1.2.2 k hk k hm rfl
  have hout2 : ∀ k ∈ (fl.drop (i + 1)).flatMap (·.2), k ∉ L := by
    rw [List.nodup_append, List.nodup_append] at nd2
    exact fun k hk hm => nd2.2.2 k (List.mem_append_right _ hm) k hk rfl
  have hnew : ∀ k ∈ dl db bs bf vch mp (fl.set i (blk fl i, L')), k ∈ dl db bs bf vch mp fl ∨ w.heap.size ≤ k := fun k hk => by
    rw [hB] at hk
    rw [hA]
    rcases List.mem_append.1 hk with hk | hk
    · rcases List.mem_append.1 hk with hk | hk
      · exact .inl (List.mem_append_left _ (List.mem_append_left _ hk))
      · rcases hn k hk with h1 | h1
        · exact .inl (List.mem_append_left _ (List.mem_append_right _ h1))
        · exact .inr h1
    · exact .inl (List.mem_append_right _ hk)
  refine ⟨⟨?_, ?_, ?_, ?_, ?_, ?_, fun j G hj => ?_, ?_, fun k hk => ?_⟩, hnew⟩
  · have e : dcells bs bf vch (D.at i f) mp = dcells bs bf vch D mp := by simp [dcells, Dsk.at]
    rw [e]
    exact t.box h.box (hout _ (by simp))
  · rw [nmap_set]; exact h.see.kept t (hout _ (by simp))
  · obtain ⟨n, q, r⟩ := h.saf
    exact ⟨n, q, by rw [nmap_set]; exact r.kept t (hout _ (by simp))⟩
  · have e : (D.at i f).chg.flatMap (ccells (fl.set i (blk fl i, L'))) = D.chg.flatMap (ccells fl) := by
      show D.chg.flatMap _ = _
      congr 1; funext c; exact ccells_set _ _ _ _
    rw [e]
    exact Touch.row h.chg t (fun k hk => hout k (by simp [mem_ob.2 hk]))
  · exact h.prt.kept t (fun k hk => hout k (by simp [hk]))
  · simp [Dsk.at, h.len]
  · have hj' : (D.fs.modify i f)[j]? = some G := hj
    rw [List.getElem?_modify] at hj'
    by_cases e : i = j
    · subst e
      obtain rfl : f F = G := by
        rw [hi] at hj'
        simpa using hj'
      exact ⟨_, hset, hf⟩
    · replace hj' : D.fs[j]? = some G := by simpa [e] using hj'
      obtain ⟨p, hp2, hf2⟩ := h.fil j G hj'
      refine ⟨p, by rw [List.getElem?_set_ne e]; exact hp2, hf2.kept t (fun k hk => ?_)⟩
      rcases Nat.lt_or_ge j i with hlt2 | hge
      · refine hout k ?_
        have : k ∈ (fl.take i).flatMap (·.2) := List.mem_flatMap.2 ⟨p, List.mem_of_getElem? (by rw [List.getElem?_take_of_lt hlt2]; exact hp2), hk⟩
        simp [this]
      · refine hout2 k ?_
        refine List.mem_flatMap.2 ⟨p, List.mem_of_getElem? (i := j - (i + 1)) (by rw [List.getElem?_drop]; rw [show i + 1 + (j - (i + 1)) = j by omega]; exact hp2), hk⟩
  · rw [hB]
    refine nodup_swap (n := w.heap.size) (by rw [← hA]; exact nd) hf.nd hn (fun k hk => ?_)
    exact hlt k (by rw [hA]; exact hk)
  · rcases hnew k hk with h1 | h1
    · exact h.ge k h1
    · omega

end Go.Proofs.YtkfjkfpodkbkaaaGreatDoor
