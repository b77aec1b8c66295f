/- block: the law BlockAll. -/
import Derived.Test.YtoljalolfdnghaaDoorBkPlayS
set_option linter.unusedVariables false
set_option linter.unusedSimpArgs false
namespace Go.Proofs.YtoljalolfdnghaaDoor
open Go Go.RowKit

set_option maxHeartbeats 400000 in
theorem size2_any (v : Value) (L : List (List UInt8)) (w : World) (hv : Rw w v L) (hn : L.length ≤ 140737488355328) (hl : ∀ r ∈ L, r.length ≤ 140737488355328) :
    Calls Tryd.prog 16 #[v] w fun e w' => (∃ y : Nat, e = .returned (.tuple #[.int .i64 (L.length : Int), .int .i64 (y : Int)]) ∧ (y : Int) ≤ 140737505132544 ∧ ((y : Int) ≤ 16777216 ∧ y = totN L ∨ (16777216 : Int) < (y : Int) ∧ 16777216 < totN L)) ∧ w' = w := by
  obtain ⟨ao, cap, rfl, hc, hx⟩ := hv
  go_enter Tryd.func16, Tryd.ntmps16
  go_wp2
  go_loopg [4, 5] L.length (fun g b i wr => w = wr ∧ ∃ k y : Nat, k ≤ L.length ∧ g = L.length - k ∧ i = .int .i64 k ∧ b = .int .i64 (y : Int) ∧ (y : Int) ≤ 140737505132544 ∧ Hid (y = totN (L.take k)))
  case atStart => exact ⟨rfl, 0, 0, by omega, rfl, rfl, rfl, by omega, rfl⟩
  case round =>
    obtain ⟨rfl, k, y, hk, rfl, rfl, rfl, hy, HY⟩ := hrel
    by_cases hlt : k < L.length
    · by_cases hbig : (y : Int) ≤ 16777216
      · obtain ⟨b, o, rfl, hat⟩ := hx (by rintro rfl; simp at hlt)
        obtain ⟨vi, hca, hsl⟩ := hat k hlt
        have hlk := hl _ (List.getElem_mem hlt)
        have hst := totN_take L k hlt
        have Hlt : Hid (k < L.length) := hlt
        obtain ⟨ai, ci, rfl, _⟩ := hsl
        clear hx hat hl
        obtain ⟨m, hm⟩ : ∃ m, (L[k]'hlt).length = m := ⟨_, rfl⟩
        rw [hm] at hst hca hlk
        have Hst : Hid (y + m = totN (L.take (k + 1))) := by show _ = _; rw [hst, HY.out]
        have hm0 : (m : Int) ≤ 140737488355328 := by omega
        have hy2 : ((y + m : Nat) : Int) ≤ 140737505132544 := by omega
        clear hst hm HY hlk
        go_wp2
        go_roundg (L.length - (k + 1))
        case measure => have := Hlt.out; omega
        case rel => exact ⟨rfl, k + 1, y + m, Hlt.out, rfl, by go_num, by go_num, hy2, Hst⟩
      · have hfin : Hid (16777216 < totN L) := by
          have := totN_le L k
          have := HY.out
          show _ < _
          omega
        have hb : (16777216 : Int) < (y : Int) := by omega
        clear hx HY hl hc
        go_wp2
        go_ret2
        exact ⟨⟨_, rfl, hy, .inr ⟨hb, hfin.out⟩⟩, rfl⟩
    · obtain rfl : k = L.length := by omega
      have hy2 := HY.out
      rw [List.take_length] at hy2
      have HY2 : Hid (y = totN L) := hy2
      clear hlt hx HY hy2 hl
      by_cases hbig : (y : Int) ≤ 16777216
      · go_wp2
        go_ret2
        exact ⟨⟨_, rfl, hy, .inl ⟨hbig, HY2.out⟩⟩, rfl⟩
      · have hb : (16777216 : Int) < (y : Int) := by omega
        have hfin : Hid (16777216 < totN L) := by have := HY2.out; show _ < _; omega
        clear HY2
        go_wp2
        go_ret2
        exact ⟨⟨_, rfl, hy, .inr ⟨hb, hfin.out⟩⟩, rfl⟩

/-- One call. -/
structure OpD where
  k : Int
  f : Nat
  L : List Rec
  b : List UInt8
  z : List Int
def OpD.Fits (o : OpD) : Prop := o.f < 18446744073709551616 ∧ (o.L.length : Int) ≤ 140737488355327 ∧ (∀ l ∈ o.L, (l.length : Int) ≤ 140737488355327) ∧ (o.b.length : Int) ≤ 140737488355327 ∧ (o.z.length : Int) ≤ 140737488355327 ∧ ∀ z ∈ o.z, -9223372036854775808 ≤ z ∧ z ≤ 9223372036854775807
def OpD.Small (o : OpD) : Prop := o.L.length ≤ 1048576 ∧ o.z.length ≤ 1048576 ∧ totN o.L ≤ 16777216 ∧ o.b.length ≤ 16777216
abbrev OpV (k : Int) (f : Nat) (vL vB vZ : Value) : Value := .agg #[.int .i64 k, .int .u64 (f : Int), vL, vB, vZ]
def OpAt (w : World) (b o : Nat) (p : OpD) : Prop :=
  ∃ vL vB vZ, w.cell? ⟨b, o, none⟩ = some (.int .i64 p.k) ∧ w.cell? ⟨b, o + 1, none⟩ = some (.int .u64 (p.f : Int)) ∧ w.cell? ⟨b, o + 2, none⟩ = some vL ∧ w.cell? ⟨b, o + 3, none⟩ = some vB ∧ w.cell? ⟨b, o + 4, none⟩ = some vZ ∧ Rw w vL p.L ∧ Sl 0 w vB p.b ∧ SlI w vZ p.z
def OpsIn (w : World) (v : Value) (ps : List OpD) : Prop :=
  ∃ ao cap, v = .slice ao ps.length cap ∧ (ps ≠ [] → ∃ b o, ao = some ⟨b, o, none⟩ ∧ ∀ i (h : i < ps.length), OpAt w b (o + i * 5) ps[i])
theorem OpAt.up {w w' : World} {b o : Nat} {p : OpD} (h : OpAt w b o p) (hu : Up w w') : OpAt w' b o p := by
  obtain ⟨vL, vB, vZ, h0, h1, h2, h3, h4, h5, h6, h7⟩ := h
  have hb : b < w.heap.size := World.block_lt_of_cell? w _ h0
  exact ⟨vL, vB, vZ, (hu.cell (p := ⟨b, o, none⟩) hb).trans h0, (hu.cell (p := ⟨b, o + 1, none⟩) hb).trans h1, (hu.cell (p := ⟨b, o + 2, none⟩) hb).trans h2, (hu.cell (p := ⟨b, o + 3, none⟩) hb).trans h3, (hu.cell (p := ⟨b, o + 4, none⟩) hb).trans h4, h5.up hu, h6.up hu, h7.up hu⟩

theorem play0 (k : Int) (f : Nat) (vL vB vZ : Value) (w : World) (hL : ∃ a n c, vL = .slice a n c) (hB : ∃ a n c, vB = .slice a n c) (hZ : ∃ a n c, vZ = .slice a n c) (h1 : ¬ k = 1) (h2 : ¬ k = 2) (h3 : ¬ k = 3) (h4 : ¬ k = 4) :
    Calls Tryd.prog 12 #[.agg #[.int .i64 k, .int .u64 (f : Int), vL, vB, vZ]] w fun e w' => e = .returned (.bool true) ∧ Up w w' := by
  obtain ⟨aL, nL, cL, rfl⟩ := hL
  obtain ⟨aB, nB, cB, rfl⟩ := hB
  obtain ⟨aZ, nZ, cZ, rfl⟩ := hZ
  have hu0 := Up.alloc w (.cells #[.int .i64 k, .int .u64 (f : Int), .slice aL nL cL, .slice aB nB cB, .slice aZ nZ cZ] 31)
  go_enter Tryd.func12, Tryd.ntmps12
  go_wp2
  go_ret
  exact ⟨rfl, hu0⟩

theorem plays_any (p : OpD) (vL vB vZ : Value) (w : World) (ad : Nat → Addr) (hk : KnA w ad) (hL : Rw w vL p.L) (hB : Sl 0 w vB p.b) (hZ : SlI w vZ p.z) (hf : p.Fits) (hs : p.Small) :
    Calls Tryd.prog 12 #[OpV p.k p.f vL vB vZ] w fun e w' => e = .returned (.bool true) ∧ Up w w' := by
  obtain ⟨k, f, L, b, z⟩ := p
  obtain ⟨f1, f2, f3, f4, f5, f6⟩ := hf
  obtain ⟨s1, s2, s3, s4⟩ := hs
  simp only at *
  have sL : ∃ a n c, vL = .slice a n c := by obtain ⟨a, c, e⟩ := hL.slice; exact ⟨a, _, c, e⟩
  have sB : ∃ a n c, vB = .slice a n c := by obtain ⟨a, c, e⟩ := hB.slice; exact ⟨a, _, c, e⟩
  have sZ : ∃ a n c, vZ = .slice a n c := by obtain ⟨a, c, e, _⟩ := hZ; exact ⟨a, _, c, e⟩
  have hl : ∀ r ∈ L, r.length ≤ 140737488355328 := fun r hr => by have := f3 r hr; omega
  by_cases h1 : k = 1
  · subst h1; exact play1 f L vL vB vZ w ad hk f1 hL sB sZ (by omega) hl
  by_cases h2 : k = 2
  · subst h2; exact play2 f b vL vB vZ w ad hk sL hB sZ (by omega)
  by_cases h3 : k = 3
  · subst h3; exact play3 f L vL vB vZ w ad hk f1 hL sB sZ (by omega) hl
  by_cases h4 : k = 4
  · subst h4; exact play4 f b z vL vB vZ w ad hk f1 sL hB hZ (by omega) (by omega) f6
  · exact play0 k f vL vB vZ w sL sB sZ h1 h2 h3 h4

/-- It answers a bool; false only where the calls are small. -/
def MuchB (ps : List OpD) (e : Ending) : Prop := ∃ r, e = .returned (.bool r) ∧ (r = false → ∀ p ∈ ps, p.Small)
set_option maxRecDepth 20000 in
set_option maxHeartbeats 3200000 in
theorem much_any (v : Value) (ps : List OpD) (w : World) (hp : OpsIn w v ps) (hlen : (ps.length : Int) ≤ 140737488355327) (hf : ∀ p ∈ ps, p.Fits) :
    Calls Tryd.prog 11 #[v] w fun e w' => MuchB ps e ∧ w' = w := by
  obtain ⟨ao, cap, rfl, hpx⟩ := hp
  have HF : Hid (∀ p ∈ ps, p.Fits) := hf
  clear hf
  obtain ⟨N, hN⟩ : ∃ N, ps.length = N := ⟨_, rfl⟩
  have HN : Hid (ps.length = N) := hN
  rw [hN] at hlen ⊢
  clear hN
  go_enter Tryd.func11, Tryd.ntmps11
  go_wp2
  go_loopg [3, 4, 5] N (fun g zn zb i wr => w = wr ∧ ∃ k n y : Nat, k ≤ N ∧ g = N - k ∧ i = .int .i64 k ∧ zn = .int .i64 (n : Int) ∧ zb = .int .i64 (y : Int) ∧ (n : Int) ≤ 562949953421312 ∧ (y : Int) ≤ 562949953421312 ∧ Hid (∀ i (h : i < ps.length), i < k → (n ≤ 1048576 → ps[i].L.length ≤ n ∧ ps[i].z.length ≤ n) ∧ (y ≤ 16777216 → totN ps[i].L ≤ y ∧ ps[i].b.length ≤ y)))
  case atStart => exact ⟨rfl, 0, 0, 0, by omega, rfl, rfl, rfl, rfl, by omega, by omega, fun i h h2 => by omega⟩
  case round =>
    obtain ⟨rfl, k, n, y, hk, rfl, rfl, rfl, rfl, hn1, hy1, HR⟩ := hrel
    have hn0 : (0 : Int) ≤ (n : Int) := by omega
    have hy0 : (0 : Int) ≤ (y : Int) := by omega
    by_cases hn : (n : Int) ≤ 1048576
    · by_cases hy : (y : Int) ≤ 16777216
      · by_cases hlt : k < N
        · have Hlt : Hid (k < N) := hlt
          have hlt' : k < ps.length := by rw [HN.out]; exact hlt
          obtain ⟨bb, o, rfl, hcell⟩ := hpx (by rintro rfl; simp at hlt')
          have hpa := hcell k hlt'
          have hpf := HF.out _ (List.getElem_mem hlt')
          have HP : Hid (∀ p, ps[k]? = some p → ∀ n2 y2 : Nat, n2 = n + 1 + p.L.length + p.z.length → (y2 ≤ 16777216 → totN p.L + y + p.b.length ≤ y2) → y ≤ y2 →
              ∀ i (h : i < ps.length), i < k + 1 → (n2 ≤ 1048576 → ps[i].L.length ≤ n2 ∧ ps[i].z.length ≤ n2) ∧ (y2 ≤ 16777216 → totN ps[i].L ≤ y2 ∧ ps[i].b.length ≤ y2)) := by
            intro p hpp n2 y2 e2 hy2 hyy i h hi
            by_cases hik : i < k
            · have := HR.out i h hik
              exact ⟨fun hh => by have := this.1 (by omega); omega, fun hh => by have := this.2 (by omega); omega⟩
            · obtain rfl : i = k := by omega
              rw [List.getElem?_eq_getElem h] at hpp
              obtain rfl := Option.some.inj hpp
              exact ⟨fun hh => by omega, fun hh => by have := hy2 hh; omega⟩
          have hpk := List.getElem?_eq_getElem hlt'
          obtain ⟨p, hpe⟩ : ∃ p, ps[k]'hlt' = p := ⟨_, rfl⟩
          rw [hpe] at hpa hpf hpk
          have HP2 := show Hid _ from HP.out p hpk
          clear hcell hpe hpk HR HP
          obtain ⟨kk, f, L, bs, z⟩ := p
          obtain ⟨f1, f2, f3, f4, f5, f6⟩ := hpf
          obtain ⟨vL, vB, vZ, h0, h1, h2, h3, h4, h5, h6, h7⟩ := hpa
          simp only at h0 h1 h2 h3 h4 h5 h6 h7 f2 f3 f4 f5
          have hsz := size2_any vL L w h5 (by omega) (fun r hr => by have := f3 r hr; omega)
          obtain ⟨aL, cL, rfl⟩ := h5.slice
          obtain ⟨aB, cB, rfl⟩ := h6.slice
          obtain ⟨aZ, cZ, rfl⟩ : ∃ a c, vZ = .slice a z.length c := by obtain ⟨a, c, e, _⟩ := h7; exact ⟨a, c, e⟩
          obtain ⟨nL, hnL⟩ : ∃ nL, L.length = nL := ⟨_, rfl⟩
          obtain ⟨nB, hnB⟩ : ∃ nB, bs.length = nB := ⟨_, rfl⟩
          obtain ⟨nZ, hnZ⟩ : ∃ nZ, z.length = nZ := ⟨_, rfl⟩
          have HL : Hid (L.length = nL ∧ bs.length = nB ∧ z.length = nZ) := ⟨hnL, hnB, hnZ⟩
          rw [hnL] at h2 f2 hsz
          rw [hnB] at h3 f4
          rw [hnZ] at h4 f5
          have g1 : (0 : Int) ≤ (nL : Int) := by omega
          have g2 : (0 : Int) ≤ (nB : Int) := by omega
          have g3 : (0 : Int) ≤ (nZ : Int) := by omega
          clear f1 f3 f6 h0 h1 h5 h6 h7 hnL hnB hnZ hlt'
          go_wp2_with fail
          refine hsz.mono ?_
          rintro e w1 ⟨⟨y2, rfl, hy2, hyd⟩, e1⟩
          obtain rfl : w = w1 := e1.symm
          have g4 : (0 : Int) ≤ (y2 : Int) := by omega
          have HY : Hid ((y2 : Int) ≤ 16777216 ∧ y2 = totN L ∨ (16777216 : Int) < (y2 : Int) ∧ 16777216 < totN L) := hyd
          have hb1 : ((n + 1 + nL + nZ : Nat) : Int) ≤ 562949953421312 := by omega
          have hb2 : ((y + y2 + nB : Nat) : Int) ≤ 562949953421312 := by omega
          clear hsz hyd hlt
          go_wp2
          go_roundg (N - (k + 1))
          case measure => have := Hlt.out; omega
          case rel => exact ⟨rfl, k + 1, n + 1 + nL + nZ, y + y2 + nB, Hlt.out, rfl, by go_num, by go_num, by go_num, hb1, hb2, HP2.out _ _ (by simp only [HL.out.1, HL.out.2.2]) (fun hh => by have := HY.out; have := HL.out.2.1; omega) (by omega)⟩
        · obtain rfl : k = N := by omega
          have hfin : Hid (∀ p ∈ ps, p.Small) := fun p hp => by
            obtain ⟨i, hi, rfl⟩ := List.getElem_of_mem hp
            have := HR.out i hi (by rw [← HN.out]; exact hi)
            have q1 := this.1 (by omega)
            have q2 := this.2 (by omega)
            exact ⟨by omega, by omega, by omega, by omega⟩
          clear HR hlt hpx
          go_wp2
          go_ret
          exact ⟨⟨_, rfl, fun _ => hfin.out⟩, rfl⟩
      · have hy2 : (16777216 : Int) < (y : Int) := by omega
        clear HR hpx
        go_wp2
        all_goals (go_ret; exact ⟨⟨_, rfl, fun h => by simp at h⟩, rfl⟩)
    · have hn2 : (1048576 : Int) < (n : Int) := by omega
      clear HR hpx
      go_wp2
      all_goals (go_ret; exact ⟨⟨_, rfl, fun h => by simp at h⟩, rfl⟩)

set_option maxHeartbeats 1600000 in
theorem BlockAll_any (v : Value) (ps : List OpD) (w : World) (ad : Nat → Addr) (hk : KnA w ad) (hp : OpsIn w v ps) (hlen : (ps.length : Int) ≤ 140737488355327) (hf : ∀ p ∈ ps, p.Fits) :
    Calls Tryd.prog 3 #[v] w fun e w' => e = .returned (.bool true) ∧ Up w w' := by
  have hp0 := hp
  obtain ⟨ao, cap, rfl, hpx⟩ := hp
  have HK : Hid (KnA w ad ∧ ∀ p ∈ ps, p.Fits) := ⟨hk, hf⟩
  go_enter Tryd.func3, Tryd.ntmps3
  go_wp2_with fail
  refine (awake_any _ ad hk.1.tb hk.1.gl).mono ?_
  rintro e w1 ⟨rfl, hu1⟩
  have hp1 : OpsIn w1 (.slice ao ps.length cap) ps := ⟨ao, cap, rfl, fun hn => by
    obtain ⟨b, o, e, h⟩ := hpx hn
    exact ⟨b, o, e, fun i hi => (h i hi).up hu1⟩⟩
  go_wp2_with fail
  refine (much_any _ ps _ hp1 hlen hf).mono ?_
  rintro e w2 ⟨⟨r, rfl, hsm⟩, e2⟩
  obtain rfl : w1 = w2 := e2.symm
  clear hp1 hp0 hk hf
  cases r with
  | true =>
    clear hsm
    go_wp2
    go_ret
    exact ⟨rfl, hu1⟩
  | false =>
    have HS : Hid (∀ p ∈ ps, p.Small) := hsm rfl
    clear hsm
    go_wp2
    go_loopg [3, 4] ps.length (fun g ok i wr => ∃ k : Nat, k ≤ ps.length ∧ g = ps.length - k ∧ i = .int .i64 k ∧ ok = .bool true ∧ Up w wr)
    case atStart => exact ⟨0, by omega, rfl, rfl, rfl, hu1⟩
    case round =>
      obtain ⟨k, hk, rfl, rfl, rfl, hup⟩ := hrel
      by_cases hlt : k < ps.length
      · obtain ⟨b, o, rfl, hcell⟩ := hpx (by rintro rfl; simp at hlt)
        have hpa := (hcell k hlt).up hup
        have hpf := HK.out.2 _ (List.getElem_mem hlt)
        have hps := HS.out _ (List.getElem_mem hlt)
        have Hlt : Hid (k < ps.length) := hlt
        clear hcell hpx
        generalize ps[k]'hlt = p at hpa hpf hps
        obtain ⟨vL, vB, vZ, h0, h1, h2, h3, h4, h5, h6, h7⟩ := hpa
        have key := plays_any p vL vB vZ wr ad (HK.out.1.up hup) h5 h6 h7 hpf hps
        obtain ⟨kk, f, L, bs, z⟩ := p
        simp only at h0 h1 h2 h3 h4 h5 h6 h7 key
        obtain ⟨aL, cL, rfl⟩ := h5.slice
        obtain ⟨aB, cB, rfl⟩ := h6.slice
        obtain ⟨aZ, cZ, rfl⟩ : ∃ a c, vZ = .slice a z.length c := by obtain ⟨a, c, e, _⟩ := h7; exact ⟨a, c, e⟩
        clear hpf hps h5 h6 h7
        go_wp2_with fail
        refine key.mono ?_
        rintro e w5 ⟨rfl, hu5⟩
        have hup5 := hup.trans hu5
        clear key h0 h1 h2 h3 h4 hu5
        go_wp2
        go_roundg (ps.length - (k + 1))
        case measure => have := Hlt.out; omega
        case rel => exact ⟨k + 1, Hlt.out, rfl, by go_num, rfl, hup5⟩
      · go_wp2
        go_ret
        exact ⟨rfl, hup⟩
end Go.Proofs.YtoljalolfdnghaaDoor
