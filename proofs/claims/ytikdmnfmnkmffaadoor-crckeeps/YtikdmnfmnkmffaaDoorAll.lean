/- The law CrcAll returns true for every row of calls, and changes nothing that was there, where the table of half bytes lies in its variable. -/
import Derived.Test.YtikdmnfmnkmffaaDoorRefJ
set_option linter.unusedVariables false
namespace Go.Proofs.YtikdmnfmnkmffaaDoor
open Go Go.RowKit

/-- One call. -/
structure OpD where
  k : Int
  b : List UInt8
  s : W32
  t : W32
  n : Int
  p : List (List UInt8)
/-- Its numbers are ints, its rows no longer than memory. -/
def OpD.Fits (o : OpD) : Prop := o.n ≤ 9223372036854775807 ∧ -9223372036854775808 ≤ o.n ∧ (o.b.length : Int) ≤ 140737488355327 ∧ (o.p.length : Int) ≤ 140737488355327 ∧ ∀ l ∈ o.p, (l.length : Int) ≤ 140737488355327
abbrev OpV (k : Int) (vB : Value) (s t : W32) (n : Int) (vP : Value) : Value := .agg #[.int .i64 k, vB, U s, U t, .int .i64 n, vP]
def OpAt (w : World) (b o : Nat) (p : OpD) : Prop :=
  ∃ vB vP, w.cell? ⟨b, o, none⟩ = some (.int .i64 p.k) ∧ w.cell? ⟨b, o + 1, none⟩ = some vB ∧ w.cell? ⟨b, o + 2, none⟩ = some (U p.s) ∧ w.cell? ⟨b, o + 3, none⟩ = some (U p.t) ∧ w.cell? ⟨b, o + 4, none⟩ = some (.int .i64 p.n) ∧ w.cell? ⟨b, o + 5, none⟩ = some vP ∧ Sl 0 w vB p.b ∧ Rw w vP p.p
def OpsIn (w : World) (v : Value) (ps : List OpD) : Prop :=
  ∃ ao cap, v = .slice ao ps.length cap ∧ (ps ≠ [] → ∃ b o, ao = some ⟨b, o, none⟩ ∧ ∀ i (h : i < ps.length), OpAt w b (o + i * 6) ps[i])
theorem OpAt.up {w w' : World} {b o : Nat} {p : OpD} (h : OpAt w b o p) (hu : Up w w') : OpAt w' b o p := by
  obtain ⟨vB, vP, h0, h1, h2, h3, h4, h5, h6, h7⟩ := h
  have hb : b < w.heap.size := World.block_lt_of_cell? w _ h0
  exact ⟨vB, vP, (hu.cell (p := ⟨b, o, none⟩) hb).trans h0, (hu.cell (p := ⟨b, o + 1, none⟩) hb).trans h1, (hu.cell (p := ⟨b, o + 2, none⟩) hb).trans h2, (hu.cell (p := ⟨b, o + 3, none⟩) hb).trans h3, (hu.cell (p := ⟨b, o + 4, none⟩) hb).trans h4, (hu.cell (p := ⟨b, o + 5, none⟩) hb).trans h5, h6.up hu, h7.up hu⟩

set_option maxHeartbeats 1600000 in
theorem plays_any (p : OpD) (vB vP : Value) (w : World) (ht : Tb w) (hB : Sl 0 w vB p.b) (hP : Rw w vP p.p) (hf : p.Fits) :
    Calls Tryd.prog 11 #[OpV p.k vB p.s p.t p.n vP] w fun e w' => e = .returned (.bool true) ∧ Up w w' := by
  obtain ⟨hn1, hn0, hb1, hp1, hl1⟩ := hf
  have hl2 : ∀ l ∈ p.p, l.length ≤ 140737488355328 := fun l hl => by have := hl1 l hl; omega
  have hu0 := Up.alloc w (.cells #[.int .i64 p.k, vB, U p.s, U p.t, .int .i64 p.n, vP] 30)
  have ht0 := ht.up hu0
  have hB0 := hB.up hu0
  have hP0 := hP.up hu0
  have a1 := Sum_any 0 vB p.b _ ht0 hB0 (by omega)
  have a2 := refSum_any 0 vB p.b _ hB0 (by omega)
  have a3 := Add_any 0 p.s vB p.b _ ht0 hB0 (by omega)
  have a4 := refAdd_any 0 p.s vB p.b _ hB0 (by omega)
  have a5 := fun w => Join_any p.s p.t p.n hn0 hn1 w
  have a6 := fun w => refJoin_any p.s p.t p.n hn1 w
  have a7 := SumOf_any vP p.p _ ht0 hP0 (by omega) hl2
  have a8 := refSumOf_any vP p.p _ hP0 (by omega) hl2
  clear hl1 hl2 hP0 hB0 ht0
  obtain ⟨k, bs, s, t, n, L⟩ := p
  simp only at *
  generalize sumC bs = z1 at a1 a2
  generalize addC s bs = z2 at a3 a4
  generalize joinC s t n.toNat = z3 at a5 a6
  generalize sumC L.flatten = z4 at a7 a8
  obtain ⟨aB, cB, rfl, _⟩ := hB
  obtain ⟨aP, cP, rfl, _⟩ := hP
  by_cases h1 : k = 1
  · subst h1
    clear a3 a4 a5 a6 a7 a8
    go_enter Tryd.func11, Tryd.ntmps11
    go_wp2_with fail
    refine a1.mono ?_
    rintro e w1 ⟨rfl, rfl⟩
    go_wp2_with fail
    refine a2.mono ?_
    rintro e w2 ⟨rfl, rfl⟩
    clear a1 a2
    go_wp2
    go_ret
    exact ⟨rfl, hu0⟩
  by_cases h2 : k = 2
  · subst h2
    clear a1 a2 a5 a6 a7 a8
    go_enter Tryd.func11, Tryd.ntmps11
    go_wp2_with fail
    refine a3.mono ?_
    rintro e w1 ⟨rfl, rfl⟩
    go_wp2_with fail
    refine a4.mono ?_
    rintro e w2 ⟨rfl, rfl⟩
    clear a3 a4
    go_wp2
    go_ret
    exact ⟨rfl, hu0⟩
  by_cases h3 : k = 3
  · subst h3
    clear a1 a2 a3 a4 a7 a8
    go_enter Tryd.func11, Tryd.ntmps11
    go_wp2_with fail
    refine (a5 _).mono ?_
    rintro e w1 ⟨rfl, rfl⟩
    go_wp2_with fail
    refine (a6 _).mono ?_
    rintro e w2 ⟨rfl, hu2⟩
    clear a5 a6
    have hu3 := hu0.trans hu2
    go_wp2
    go_ret
    exact ⟨rfl, hu3⟩
  by_cases h4 : k = 4
  · subst h4
    clear a1 a2 a3 a4 a5 a6
    go_enter Tryd.func11, Tryd.ntmps11
    go_wp2_with fail
    refine a7.mono ?_
    rintro e w1 ⟨rfl, rfl⟩
    go_wp2_with fail
    refine a8.mono ?_
    rintro e w2 ⟨rfl, rfl⟩
    clear a7 a8
    go_wp2
    go_ret
    exact ⟨rfl, hu0⟩
  · clear a1 a2 a3 a4 a5 a6 a7 a8
    go_enter Tryd.func11, Tryd.ntmps11
    go_wp2
    go_ret
    exact ⟨rfl, hu0⟩

/-- It answers a bool. -/
def IsB (e : Ending) : Prop := ∃ r, e = .returned (.bool r)

set_option maxRecDepth 20000 in
set_option maxHeartbeats 3200000 in
theorem much_any (v : Value) (ps : List OpD) (w : World) (hp : OpsIn w v ps) (hlen : (ps.length : Int) ≤ 140737488355327) (hf : ∀ p ∈ ps, p.Fits) :
    Calls Tryd.prog 10 #[v] w fun e w' => IsB e ∧ Up w w' := by
  obtain ⟨ao, cap, rfl, hpx⟩ := hp
  go_enter Tryd.func10, Tryd.ntmps10
  go_wp2
  go_loopg [3, 4, 5, 7] ps.length (fun g zn zb i kk wr => ∃ (k : Nat) (n b : Int), k ≤ ps.length ∧ g = ps.length - k ∧ i = .int .i64 k ∧ zn = .int .i64 n ∧ zb = .int .i64 b ∧ 0 ≤ n ∧ n ≤ 562949953421312 ∧ 0 ≤ b ∧ b ≤ 562949953421312 ∧ Up w wr)
  case atStart => exact ⟨0, 0, 0, by omega, rfl, rfl, rfl, rfl, by omega, by omega, by omega, by omega, Up.refl _⟩
  case round =>
    obtain ⟨k, n, b, hk, rfl, rfl, rfl, rfl, hn0, hn1, hb0, hb1, hup⟩ := hrel
    by_cases hlt : k < ps.length
    · by_cases hn : n ≤ 1048576
      · by_cases hb : b ≤ 16777216
        · obtain ⟨bb, o, rfl, hcell⟩ := hpx (by rintro rfl; simp at hlt)
          have hpa := (hcell k hlt).up hup
          have hpf := hf _ (List.getElem_mem hlt)
          have Hlt : Hid (k < ps.length) := hlt
          clear hcell hpx hf
          generalize ps[k]'hlt = p at hpa hpf
          obtain ⟨kk, bs, s, t, nn, L⟩ := p
          obtain ⟨q1, q2, q3, q4, q5⟩ := hpf
          obtain ⟨vB, vP, h0, h1, h2, h3, h4, h5, h6, h7⟩ := hpa
          simp only at h0 h1 h2 h3 h4 h5 h6 h7 q3 q4 q5
          have HL : Hid (∀ l ∈ L, (l.length : Int) ≤ 140737488355327) := q5
          have hu0 := Up.alloc wr (.cells #[.int .i64 kk, vB, U s, U t, .int .i64 nn, vP] 30)
          have h8 : Hid (Rw (wr.alloc (.cells #[.int .i64 kk, vB, U s, U t, .int .i64 nn, vP] 30)) vP L) := h7.up hu0
          have hupo := hup.trans hu0
          obtain ⟨aB, cB, rfl, _⟩ := h6
          obtain ⟨aP, cP, rfl, _⟩ := h7
          clear q1 q2 q5 hu0
          go_wp2_with fail
          go_loopg [4, 7] L.length (fun g zb kk2 wi => wr.alloc (.cells #[.int .i64 kk, .slice aB bs.length cB, U s, U t, .int .i64 nn, .slice aP L.length cP] 30) = wi ∧ ∃ (j : Nat) (b2 : Int), j ≤ L.length ∧ g = L.length - j ∧ kk2 = .int .i64 j ∧ zb = .int .i64 b2 ∧ 0 ≤ b2 ∧ b2 ≤ 562949953421312)
          case atStart => exact ⟨rfl, 0, _, by omega, rfl, rfl, rfl, by omega, by omega⟩
          case round =>
            obtain ⟨rfl, j, b2, hj, rfl, rfl, rfl, hb20, hb21⟩ := hrel
            by_cases hjl : j < L.length
            · by_cases hbb : b2 ≤ 16777216
              · obtain ⟨aP2, cP2, e1, _, hrow⟩ := h8.out
                obtain ⟨b8, o8, e2, hrow2⟩ := hrow (by rintro rfl; simp at hjl)
                simp only [Value.slice.injEq] at e1
                obtain ⟨rfl, _, rfl⟩ := e1
                subst e2
                obtain ⟨vi, hci, hsi⟩ := hrow2 j hjl
                have hli := HL.out _ (List.getElem_mem hjl)
                obtain ⟨ai, ci, rfl, _⟩ := hsi
                have Hjl : Hid (j < L.length) := hjl
                generalize (L[j]'hjl).length = li at hci hli
                have hli0 : (0 : Int) ≤ (li : Int) := by omega
                clear hrow hrow2
                go_wp2
                go_roundg (L.length - (j + 1))
                case measure => have := Hjl.out; omega
                case rel => exact ⟨rfl, j + 1, _, Hjl.out, rfl, by go_num, rfl, by omega, by omega⟩
              · go_wp2
                go_roundg (ps.length - (k + 1))
                case measure => have := Hlt.out; omega
                case rel => exact ⟨k + 1, _, _, Hlt.out, rfl, by go_num, rfl, rfl, by omega, by omega, by omega, by omega, hupo⟩
            · go_wp2
              go_roundg (ps.length - (k + 1))
              case measure => have := Hlt.out; omega
              case rel => exact ⟨k + 1, _, _, Hlt.out, rfl, by go_num, rfl, rfl, by omega, by omega, by omega, by omega, hupo⟩
        · go_wp2
          all_goals (go_ret; exact ⟨⟨_, rfl⟩, hup⟩)
      · go_wp2
        all_goals (go_ret; exact ⟨⟨_, rfl⟩, hup⟩)
    · go_wp2
      all_goals (go_ret; exact ⟨⟨_, rfl⟩, hup⟩)

set_option maxHeartbeats 1600000 in
theorem CrcAll_any (v : Value) (ps : List OpD) (w : World) (ht : Tb w) (hp : OpsIn w v ps) (hlen : (ps.length : Int) ≤ 140737488355327) (hf : ∀ p ∈ ps, p.Fits) :
    Calls Tryd.prog 3 #[v] w fun e w' => e = .returned (.bool true) ∧ Up w w' := by
  have hp0 := hp
  obtain ⟨ao, cap, rfl, hpx⟩ := hp
  go_enter Tryd.func3, Tryd.ntmps3
  go_wp2_with fail
  refine (awake_any _ ht).mono ?_
  rintro e w1 ⟨rfl, hu1⟩
  have hp1 : OpsIn w1 (.slice ao ps.length cap) ps := ⟨ao, cap, rfl, fun hn => by
    obtain ⟨b, o, e, h⟩ := hpx hn
    exact ⟨b, o, e, fun i hi => (h i hi).up hu1⟩⟩
  go_wp2_with fail
  refine (much_any _ ps _ hp1 hlen hf).mono ?_
  rintro e w2 ⟨⟨r, rfl⟩, hu2⟩
  have hu12 := hu1.trans hu2
  clear hp1 hu1 hu2 hp0
  cases r with
  | true =>
    go_wp2
    go_ret
    exact ⟨rfl, hu12⟩
  | false =>
    go_wp2
    go_loopg [3, 4] ps.length (fun g ok i wr => ∃ k : Nat, k ≤ ps.length ∧ g = ps.length - k ∧ i = .int .i64 k ∧ ok = .bool true ∧ Up w wr)
    case atStart => exact ⟨0, by omega, rfl, rfl, rfl, hu12⟩
    case round =>
      obtain ⟨k, hk, rfl, rfl, rfl, hup⟩ := hrel
      by_cases hlt : k < ps.length
      · obtain ⟨b, o, rfl, hcell⟩ := hpx (by rintro rfl; simp at hlt)
        have hpa := (hcell k hlt).up hup
        have hpf := hf _ (List.getElem_mem hlt)
        have Hlt : Hid (k < ps.length) := hlt
        clear hcell hpx hf
        generalize ps[k]'hlt = p at hpa hpf
        obtain ⟨vB, vP, h0, h1, h2, h3, h4, h5, h6, h7⟩ := hpa
        have key := plays_any p vB vP wr (ht.up hup) h6 h7 hpf
        obtain ⟨kk, bs, s, t, nn, L⟩ := p
        simp only at h0 h1 h2 h3 h4 h5 h6 h7 key
        obtain ⟨aB, cB, rfl, _⟩ := h6
        obtain ⟨aP, cP, rfl, _⟩ := h7
        clear hpf
        go_wp2_with fail
        refine key.mono ?_
        rintro e w5 ⟨rfl, hu5⟩
        have hup5 := hup.trans hu5
        clear key h0 h1 h2 h3 h4 h5 hu5
        go_wp2
        go_roundg (ps.length - (k + 1))
        case measure => have := Hlt.out; omega
        case rel => exact ⟨k + 1, Hlt.out, rfl, by go_num, rfl, hup5⟩
      · go_wp2
        go_ret
        exact ⟨rfl, hup⟩
end Go.Proofs.YtikdmnfmnkmffaaDoor
