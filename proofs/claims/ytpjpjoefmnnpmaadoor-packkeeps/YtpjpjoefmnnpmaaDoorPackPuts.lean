/- The law PackPuts returns true for every row of puts whose texts and bytes fit, and changes nothing that was there, where the package variables of errors hold their errors. -/
import Derived.Test.YtpjpjoefmnnpmaaDoorCalled
import Derived.Test.YtpjpjoefmnnpmaaDoorLives
set_option linter.unusedVariables false
namespace Go.Proofs.YtpjpjoefmnnpmaaDoor
open Go Go.RowKit

set_option maxHeartbeats 800000 in
theorem puts_ok (k : Int) (vB : Value) (bs : List UInt8) (x : Nat) (s : ByteArray) (w : World) (hs : Sl 0 w vB bs) (hl : bs.length ≤ 140737400000000) (hx : Hid (x < 2 ^ 64)) (hn : k = 4 → (s.size : Int) ≤ 65535) :
    Calls Tryd.prog 11 #[PutV k vB x s] w fun e w' => e = .returned (.bool true) ∧ Up w w' := by
  have hs0 := hs
  obtain ⟨ao, cap, rfl, _⟩ := hs
  have i1 := fun u => Is_of .nilIface 0 0 u (Of_none u)
  simp only [decide_true] at i1
  have hu0 := Up.alloc w (.cells #[.int .i64 k, .slice ao bs.length cap, .int .u64 (x : Int), .string s] 28)
  go_enter Tryd.func11, Tryd.ntmps11
  go_wp2_with fail
  refine (wanted_any k _ _ bs x s _ (hs0.up hu0) hl hx hn).mono ?_
  rintro e w1 ⟨v1, rfl, ho1, hu1⟩
  have hu01 := hu0.trans hu1
  have b1 : ∀ o, w1.cell? ⟨w.heap.size, o, none⟩ = (w.alloc (.cells #[.int .i64 k, .slice ao bs.length cap, .int .u64 (x : Int), .string s] 28)).cell? ⟨w.heap.size, o, none⟩ := fun o => hu1.cell (p := ⟨w.heap.size, o, none⟩) (by simp)
  have c0 : w1.cell? ⟨w.heap.size, 0, none⟩ = some (.int .i64 k) := by rw [b1, cell_of_row _ _ _ _ _ _ (heap_alloc_new _ _)]; rfl
  have c1 : w1.cell? ⟨w.heap.size, 1, none⟩ = some (.slice ao bs.length cap) := by rw [b1, cell_of_row _ _ _ _ _ _ (heap_alloc_new _ _)]; rfl
  have c2 : w1.cell? ⟨w.heap.size, 2, none⟩ = some (.int .u64 (x : Int)) := by rw [b1, cell_of_row _ _ _ _ _ _ (heap_alloc_new _ _)]; rfl
  have c3 : w1.cell? ⟨w.heap.size, 3, none⟩ = some (.string s) := by rw [b1, cell_of_row _ _ _ _ _ _ (heap_alloc_new _ _)]; rfl
  clear b1
  go_wp2_with fail
  refine (called_any k _ _ bs x s _ (hs0.up hu01) hl hx hn).mono ?_
  rintro e w2 ⟨v2, rfl, ho2, hu2⟩
  have hfin := hu01.trans hu2
  have s2 := ho2.sl
  have s1 := ho1.sl.up hu2
  clear ho1 ho2 hu1 hu2 hu01 c0 c1 c2 c3 hs0 hu0
  go_wp2_with fail
  refine (alike_eq _ _ _ _ _ _ s2 s1).mono ?_
  rintro e w3 ⟨rfl, rfl⟩
  go_wp2_with fail
  refine (i1 _).mono ?_
  rintro e w4 ⟨rfl, rfl⟩
  go_wp2
  go_ret
  exact ⟨rfl, hfin⟩

set_option maxHeartbeats 800000 in
theorem puts_long (vB : Value) (bs : List UInt8) (x : Nat) (s : ByteArray) (txt : Nat → List UInt8) (ad : Nat → Addr) (w : World) (hs : Sl 0 w vB bs) (h : ErrSet allErrs txt w ad) (hu : Unlike txt) (hn : (65535 : Int) < (s.size : Int)) :
    Calls Tryd.prog 11 #[PutV 4 vB x s] w fun e w' => e = .returned (.bool true) ∧ Up w w' := by
  obtain ⟨ao, cap, rfl, _⟩ := hs
  have hu0 := Up.alloc w (.cells #[.int .i64 4, .slice ao bs.length cap, .int .u64 (x : Int), .string s] 28)
  go_enter Tryd.func11, Tryd.ntmps11
  go_wp2_with fail
  refine (wanted_long _ _ x s _ hn).mono ?_
  rintro e w1 ⟨rfl, hu1⟩
  have hu01 := hu0.trans hu1
  have b1 : ∀ o, w1.cell? ⟨w.heap.size, o, none⟩ = (w.alloc (.cells #[.int .i64 4, .slice ao bs.length cap, .int .u64 (x : Int), .string s] 28)).cell? ⟨w.heap.size, o, none⟩ := fun o => hu1.cell (p := ⟨w.heap.size, o, none⟩) (by simp)
  have c0 : w1.cell? ⟨w.heap.size, 0, none⟩ = some (.int .i64 4) := by rw [b1, cell_of_row _ _ _ _ _ _ (heap_alloc_new _ _)]; rfl
  have c1 : w1.cell? ⟨w.heap.size, 1, none⟩ = some (.slice ao bs.length cap) := by rw [b1, cell_of_row _ _ _ _ _ _ (heap_alloc_new _ _)]; rfl
  have c2 : w1.cell? ⟨w.heap.size, 2, none⟩ = some (.int .u64 (x : Int)) := by rw [b1, cell_of_row _ _ _ _ _ _ (heap_alloc_new _ _)]; rfl
  have c3 : w1.cell? ⟨w.heap.size, 3, none⟩ = some (.string s) := by rw [b1, cell_of_row _ _ _ _ _ _ (heap_alloc_new _ _)]; rfl
  clear b1
  go_wp2_with fail
  refine (called_long _ _ x s _ _ ((h _ (by decide)).1.up hu01) hn).mono ?_
  rintro e w2 ⟨rfl, hu2⟩
  have hfin := hu01.trans hu2
  have i1 := Is_of _ 4 4 w2 (Of_Long txt w2 ad (h.up hfin) hu)
  simp only [decide_true] at i1
  clear hu1 hu2 hu01 c0 c1 c2 c3 hu0 hn
  go_wp2_with fail
  refine (alike_eq 0 0 _ _ [] _ (Sl.nil _ _) (Sl.nil _ _)).mono ?_
  rintro e w3 ⟨rfl, rfl⟩
  go_wp2_with fail
  refine i1.mono ?_
  rintro e w4 ⟨rfl, rfl⟩
  go_wp2
  go_ret
  exact ⟨rfl, hfin⟩

theorem puts_any (k : Int) (vB : Value) (bs : List UInt8) (x : Nat) (s : ByteArray) (txt : Nat → List UInt8) (ad : Nat → Addr) (w : World) (hs : Sl 0 w vB bs) (hl : bs.length ≤ 140737400000000) (hx : Hid (x < 2 ^ 64)) (h : ErrSet allErrs txt w ad) (hu : Unlike txt) :
    Calls Tryd.prog 11 #[PutV k vB x s] w fun e w' => e = .returned (.bool true) ∧ Up w w' := by
  by_cases hlong : k = 4 ∧ (65535 : Int) < (s.size : Int)
  · obtain ⟨rfl, hn⟩ := hlong
    exact puts_long vB bs x s txt ad w hs h hu hn
  · exact puts_ok k vB bs x s w hs hl hx (fun h4 => by have := fun h => hlong ⟨h4, h⟩; omega)

/-- One Put in memory: its kind, its bytes, its number, its text. -/
abbrev PutD := Int × List UInt8 × Nat × ByteArray
def PutAt (w : World) (b o : Nat) (p : PutD) : Prop :=
  ∃ vB, w.cell? ⟨b, o, none⟩ = some (.int .i64 p.1) ∧ w.cell? ⟨b, o + 1, none⟩ = some vB ∧ w.cell? ⟨b, o + 2, none⟩ = some (.int .u64 (p.2.2.1 : Int)) ∧ w.cell? ⟨b, o + 3, none⟩ = some (.string p.2.2.2) ∧ Sl 0 w vB p.2.1 ∧ p.2.2.1 < 2 ^ 64
/-- A slice of Puts. -/
def PutsIn (w : World) (v : Value) (ps : List PutD) : Prop :=
  ∃ ao cap, v = .slice ao ps.length cap ∧ (ps ≠ [] → ∃ b o, ao = some ⟨b, o, none⟩ ∧ ∀ i (h : i < ps.length), PutAt w b (o + i * 4) ps[i])

theorem PutAt.up {w w' : World} {b o : Nat} {p : PutD} (h : PutAt w b o p) (hu : Up w w') : PutAt w' b o p := by
  obtain ⟨vB, h0, h1, h2, h3, h4, h5⟩ := h
  have hb : b < w.heap.size := World.block_lt_of_cell? w _ h0
  exact ⟨vB, (hu.cell (p := ⟨b, o, none⟩) hb).trans h0, (hu.cell (p := ⟨b, o + 1, none⟩) hb).trans h1, (hu.cell (p := ⟨b, o + 2, none⟩) hb).trans h2, (hu.cell (p := ⟨b, o + 3, none⟩) hb).trans h3, h4.up hu, h5⟩

set_option maxHeartbeats 1600000 in
theorem PackPuts_any (v : Value) (ps : List PutD) (w : World) (txt : Nat → List UInt8) (ad : Nat → Addr) (hp : PutsIn w v ps) (hlen : ps.length ≤ 140737488351232) (hl : ∀ p ∈ ps, p.2.1.length ≤ 140737400000000) (h : ErrSet allErrs txt w ad) (hu : Unlike txt) :
    Calls Tryd.prog 3 #[v] w fun e w' => e = .returned (.bool true) ∧ Up w w' := by
  have he := h.errs (by decide) (by decide) (by decide)
  obtain ⟨ao, cap, rfl, hpx⟩ := hp
  go_enter Tryd.func3, Tryd.ntmps3
  go_wp2_with fail
  refine (lives_any _ _ _ _ he).mono ?_
  rintro e w1 ⟨rfl, hu1⟩
  go_wp2_with fail
  refine (puts_any 4 (.slice none 0 0) [] 0 { data := #[97, 98] } txt ad _ (Sl.nil 0 _) (by simp) (by show 0 < 2 ^ 64; omega) (h.up hu1) hu).mono ?_
  rintro e w2 ⟨rfl, hu2⟩
  have hu02 := hu1.trans hu2
  clear hu1 hu2 he
  go_wp2_with fail
  go_loopw [3] (fun i wr => ∃ k : Nat, k ≤ ps.length ∧ i = .int .i64 k ∧ Up w wr) (fun i _ => ps.length - (intOf i).toNat)
  case atStart => exact ⟨0, Nat.zero_le _, rfl, hu02⟩
  case round =>
    obtain ⟨k, hk, rfl, hup⟩ := hrel
    by_cases hlt : k < ps.length
    · obtain ⟨b, o, rfl, hcell⟩ := hpx (by rintro rfl; simp at hlt)
      have hpa := (hcell k hlt).up hup
      have hpl := hl _ (List.getElem_mem hlt)
      clear hcell hpx hl
      generalize ps[k]'hlt = p at hpa hpl
      obtain ⟨kk, pb, px, psx⟩ := p
      obtain ⟨vB, h0, h1, h2, h3, h4, h5⟩ := hpa
      have H5 : Hid (px < 2 ^ 64) := h5
      simp only at h0 h1 h2 h3 h4 hpl
      have key := puts_any kk vB pb px psx txt ad wr h4 hpl H5 (h.up hup) hu
      obtain ⟨bo, bc, rfl, _⟩ := h4
      clear h5 hpl
      go_wp2_with fail
      refine key.mono ?_
      rintro e w5 ⟨rfl, hu5⟩
      have hup5 := hup.trans hu5
      clear key h0 h1 h2 h3 hu5
      go_wp2
      go_roundw
      case rel => exact ⟨k + 1, by omega, by go_num, hup5⟩
      case measure => simp [intOf]; omega
    · go_wp2
      go_ret
      exact ⟨rfl, hup⟩
end Go.Proofs.YtpjpjoefmnnpmaaDoor
