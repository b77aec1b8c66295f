/- The law PackKeeps returns true for every row of puts, and changes nothing that was there, where the package variables of errors hold their errors. -/
import Derived.Test.YtpjpjoefmnnpmaaDoorKeepsQ
import Derived.Test.YtpjpjoefmnnpmaaDoorPackPutsW
import Derived.Deep.LoopGhost
import Derived.Deep.DeepCutAuto
import Derived.Deep.RegionWith
import Derived.Deep.QuietTactic
import Derived.BigQuiet
set_option linter.unusedVariables false
namespace Go.Proofs.YtpjpjoefmnnpmaaDoor
open Go Go.RowKit

set_option maxRecDepth 20000 in
set_option maxHeartbeats 12800000 in
theorem PackKeeps_any (v : Value) (ps : List PutD) (w : World) (txt : Nat → List UInt8) (ad : Nat → Addr) (hp : PutsIn w v ps) (hlen : (ps.length : Int) ≤ 140737488351232) (hl : ∀ p ∈ ps, (p.2.1.length : Int) ≤ 140737488351232 ∧ (p.2.2.2.size : Int) ≤ 140737488351232) (h : ErrSet fourErrs txt w ad) :
    Calls Tryd.prog 9 #[v] w fun e w' => e = .returned (.bool true) ∧ Up w w' := by
  have he := h.errs (by decide) (by decide) (by decide)
  have hLg : Gl w 3 (ad 3) := (h _ (by decide)).1
  obtain ⟨ao, cap, rfl, hpx⟩ := hp
  go_enter Tryd.func9, Tryd.ntmps9
  go_wp2_with fail
  refine (lives_any _ _ _ _ he).mono ?_
  rintro e w1 ⟨rfl, hu1⟩
  have HL1 : Hid (Gl w1 3 (ad 3)) := hLg.up hu1
  have HS1 : Hid (Gl w1 0 (ad 0)) := he.short.up hu1
  have Hpx : Hid (ps ≠ [] → ∃ b o, ao = some ⟨b, o, none⟩ ∧ ∀ i (h : i < ps.length), PutAt w1 b (o + i * 4) ps[i]) := fun hn => by
    obtain ⟨b, o, e, hh⟩ := hpx hn
    exact ⟨b, o, e, fun i hi => (hh i hi).up hu1⟩
  have Hl : Hid (∀ p ∈ ps, (p.2.1.length : Int) ≤ 140737488351232 ∧ (p.2.2.2.size : Int) ≤ 140737488351232) := hl
  clear he hLg h hpx hl
  have HB0 : Hid (Bk w1 w1 (.slice none 0 0) 0) := Bk.start w1
  go_wp2_with fail
  go_loopg [3, 4, 5] 64 (fun g vb z i wr => ∃ (k : Nat) (y : Int), k ≤ 64 ∧ g = 64 - k ∧ i = .int .i64 k ∧ z = .int .i64 y ∧ 0 ≤ y ∧ y ≤ 262144 ∧ Hid (Bk w1 wr vb (3 * k)))
  case atStart => exact ⟨0, 0, by omega, rfl, rfl, rfl, by omega, by omega, HB0⟩
  case round =>
    clear HB0
    obtain ⟨k, y, hk, rfl, rfl, rfl, hy0, hy1, hB⟩ := hrel
    obtain ⟨W0, rfl⟩ : ∃ W0, W0 = wr := ⟨_, rfl⟩
    have Hap : Hid (Calls Tryd.prog 31 #[u3] W0 fun e w' => e = .returned (.bool true) ∧ Up w1 w') := hB.out.apart (by omega)
    by_cases hlt : k < ps.length
    · by_cases h64 : k < 64
      · obtain ⟨b, o, rfl, hcell⟩ := Hpx.out (by rintro rfl; simp at hlt)
        have hpa := (hcell k hlt).up hB.out.up
        have hpa1 := hcell k hlt
        have hpl := Hl.out _ (List.getElem_mem hlt)
        have H64 : Hid (k < 64) := h64
        clear hcell
        generalize ps[k]'hlt = p at hpa hpa1 hpl
        obtain ⟨kk, pb, px, psx⟩ := p
        obtain ⟨vB, h0, h1, h2, h3, h4, h5⟩ := hpa
        simp only at h0 h1 h2 h3 h4 h5 hpl
        obtain ⟨hpb, hps⟩ := hpl
        have hps0 : (0 : Int) ≤ (psx.size : Int) := by omega
        have Hsl : Hid (Sl 0 W0 vB pb) := h4
        obtain ⟨bo, bc, rfl, _⟩ := h4
        have Hpb : Hid ((pb.length : Int) ≤ 140737488351232) := hpb
        obtain ⟨fe, C, hfe⟩ : ∃ (fe : Value) (C : List UInt8), CallU W0 (PutV kk (.slice bo pb.length bc) px psx) pb C fe ∧ (fe = .nilIface ∨ ∃ a, fe = E a) ∧ (C.length : Int) ≤ (pb.length : Int) + 65537 := by
          by_cases hlong : kk = 4 ∧ (65535 : Int) < (psx.size : Int)
          · obtain ⟨rfl, hn⟩ := hlong
            exact ⟨_, [], callU_long W0 _ pb px psx _ (HL1.out.up hB.out.up) hn, .inr ⟨_, rfl⟩, by simp; omega⟩
          · have hn : kk = 4 → (psx.size : Int) ≤ 65535 := fun h4 => by have := fun h => hlong ⟨h4, h⟩; omega
            have hel := enc_len kk px psx hn
            exact ⟨_, _, callU_ok W0 kk _ pb px psx (by omega) h5 hn, .inl rfl, by rw [List.length_append]; omega⟩
        have HC : Hid (CallU W0 (PutV kk (.slice bo pb.length bc) px psx) pb C fe ∧ (fe = .nilIface ∨ ∃ a, fe = E a) ∧ (C.length : Int) ≤ (pb.length : Int) + 65537) := hfe
        clear hfe hpa1 h5
        obtain ⟨m, hm⟩ : ∃ m, m = pb.length := ⟨_, rfl⟩
        have Hm : Hid (m = pb.length) := hm
        rw [← hm] at h1 hpb
        by_cases hbig : 262144 < y + (m : Int) + (psx.size : Int)
        · clear hm
          go_wp2_with fail
          refine ((hB.out.grow (Up.alloc W0 _)).apart (by omega)).mono ?_
          rintro e w5 ⟨rfl, hu5⟩
          have hfin := hu1.trans hu5
          go_wp2
          go_ret
          exact ⟨rfl, hfin⟩
        · have Hb : Hid (0 ≤ y + (m : Int) + (psx.size : Int) ∧ y + (m : Int) + (psx.size : Int) ≤ 262144 ∧ (m : Int) ≤ 262144) := by refine ⟨?_, ?_, ?_⟩ <;> omega
          have hmI : (m : Int) ≤ 262144 := Hb.out.2.2
          have hmk20 : ∀ u, (Instr.makeSlice 25 (.int .i64 ((m : Int) + 20)) (.int .i64 ((m : Int) + 20))).run Tryd.prog u = .ok (.slice (some ⟨u.heap.size, 0, none⟩) (m + 20) (m + 20)) (u.alloc (.cells (madeCells #[.int .u8 0] (m + 20)) 5)) := fun u => by
            have h := make_u8 (m + 20) (by omega) u
            rwa [show ((m + 20 : Nat) : Int) = (m : Int) + 20 by omega] at h
          have HR0 := Rn0.start W0 #[.int .i64 kk, .slice bo m bc, .int .u64 (px : Int), .string psx] m pb hm (by omega)
          have HR : Hid (Rn0 W0 ((W0.alloc (.cells #[.int .i64 kk, .slice bo m bc, .int .u64 (px : Int), .string psx] 28)).alloc (.cells (madeCells #[.int .u8 0] (m + 20)) 5)) W0.heap.size (W0.heap.size + 1) #[.int .i64 kk, .slice bo m bc, .int .u64 (px : Int), .string psx] (m + 20) (fillF pb 0)) := HR0
          clear HR0 hm
          go_wp2_with fail
          generalize (W0.alloc (.cells #[.int .i64 kk, .slice bo m bc, .int .u64 (px : Int), .string psx] 28)).alloc (.cells (madeCells #[.int .u8 0] (m + 20)) 5) = W2 at HR ⊢
          obtain ⟨bx, hbx⟩ : ∃ bx, bx = W0.heap.size := ⟨_, rfl⟩
          have Hbx : Hid (bx = W0.heap.size) := hbx
          rw [← hbx] at HR ⊢
          clear hbx
          obtain ⟨gb, hgb⟩ : ∃ gb, gb = bx + 1 := ⟨_, rfl⟩
          have Hgb : Hid (gb = bx + 1) := hgb
          rw [← hgb] at HR ⊢
          clear hgb hmk20 h0 h1 h2 h3
          go_loopg [8] (m + 20) (fun g kk2 wi => ∃ t : Nat, t ≤ m + 20 ∧ g = m + 20 - t ∧ kk2 = .int .i64 (t : Int) ∧ Hid (Rn0 W0 wi bx gb #[.int .i64 kk, .slice bo m bc, .int .u64 (px : Int), .string psx] (m + 20) (fillF pb t)))
          case atStart => exact ⟨0, by omega, rfl, rfl, HR⟩
          case round =>
            clear HR
            obtain ⟨t, ht20, rfl, rfl, hR⟩ := hrel
            by_cases htm : t < m + 20
            · have htI : (t : Int) < (m : Int) + 20 := by omega
              have Htm : Hid (t < m + 20) := htm
              --DEV{
              have hflen := fullF_length pb
              have htf : t < (fullF pb).length := by have := Hm.out; omega
              have hts : t < (fillF pb t).length := by rw [fillF_length _ _ (by have := Hm.out; omega)]; have := Hm.out; omega
              have hR1 := hR.out.set t hts 0x5a
              have hb1 : (wr.setCell ⟨gb, t, none⟩ (.int .u8 90)).cell? ⟨bx, 1, none⟩ = some (.slice bo m bc) := box_cell hR1.box 1 _ rfl
              have hc0 := hR.out.at t hts
              obtain ⟨hcB, hfB⟩ := hc0
              generalize (fillF pb t)[t]'hts = old at hcB
              by_cases htb : t < m
              · have htbI : (t : Int) < (m : Int) := by omega
                have htp : t < pb.length := by rw [← Hm.out]; exact htb
                obtain ⟨ap, cp, e1, _, _, hxp⟩ := Hsl.out.up hR1.up
                obtain ⟨bp, op, e2, _, hatp⟩ := hxp (by rintro rfl; simp at htp)
                simp only [Value.slice.injEq] at e1
                obtain ⟨rfl, hme, rfl⟩ := e1
                subst e2
                clear hme
                have hcP : (wr.setCell ⟨gb, t, none⟩ (.int .u8 90)).cell? ⟨bp, op + t, none⟩ = some (B (pb[t]'htp)) := hatp t htp
                have hts1 : t < ((fillF pb t).set t 0x5a).length := by simpa using hts
                have hR2 := hR1.set t hts1 (pb[t]'htp)
                have hR3 : Hid (Rn0 W0 ((wr.setCell ⟨gb, t, none⟩ (.int .u8 90)).setCell ⟨gb, t, none⟩ (B (pb[t]'htp))) bx gb #[.int .i64 kk, .slice (some ⟨bp, op, none⟩) m bc, .int .u64 (px : Int), .string psx] (m + 20) (fillF pb (t + 1))) := by
                  have e := fillF_next pb t htf
                  rw [fullF_head pb t htp htf] at e
                  rw [List.set_set, e] at hR2
                  exact hR2
                have hfB2 : (wr.setCell ⟨gb, t, none⟩ (.int .u8 90)).frozen? ⟨gb, t, none⟩ = false := hR1.full.not_frozen
                generalize pb[t]'htp = cc at hcP hR3
                clear hatp hxp hR hR1 hR2 hts hts1 htf htp htm ht20 hflen
                go_wp2
                go_roundg (m + 20 - (t + 1))
                case measure => have := Htm.out; omega
                case rel => exact ⟨t + 1, Htm.out, rfl, by go_num, hR3⟩
              · have htbI : (m : Int) ≤ (t : Int) := by omega
                have hR3 : Hid (Rn0 W0 (wr.setCell ⟨gb, t, none⟩ (.int .u8 90)) bx gb #[.int .i64 kk, .slice bo m bc, .int .u64 (px : Int), .string psx] (m + 20) (fillF pb (t + 1))) := by
                  have e := fillF_next pb t htf
                  rw [fullF_tail pb t (by have := Hm.out; omega) htf] at e
                  rw [e] at hR1
                  exact hR1
                clear hR hR1 hts htf htm ht20 hflen
                go_wp2
                go_roundg (m + 20 - (t + 1))
                case measure => have := Htm.out; omega
                case rel => exact ⟨t + 1, Htm.out, rfl, by go_num, hR3⟩
              --}DEV
            · obtain rfl : t = m + 20 := by omega
              have HF : Hid (Rn0 W0 wr bx gb #[.int .i64 kk, .slice bo m bc, .int .u64 (px : Int), .string psx] (m + 20) (fullF pb)) := by
                have := hR.out
                have e := fillF_done pb
                rw [← Hm.out] at e
                rwa [e] at this
              have HCall : Hid (∀ u, Rn0 W0 u bx gb #[.int .i64 kk, .slice bo m bc, .int .u64 (px : Int), .string psx] (m + 20) (fullF pb) → Calls Tryd.prog 29 #[.agg #[.int .i64 kk, .slice bo m bc, .int .u64 (px : Int), .string psx], .slice (some ⟨gb, 0, none⟩) m (m + 20)] u fun e w' => ∃ v', e = .returned (.tuple #[v', fe]) ∧ Own w' 5 u.heap.size v' C ∧ Up u w') := fun u hu => by
                have := HC.out.1 (.slice (some ⟨gb, 0, none⟩) m (m + 20)) u hu.up (hu.head Hm.out)
                rwa [← Hm.out] at this
              have hsl := fun u => slice_head u gb (m + 20) (m + 20) m (by omega) (Nat.le_refl _) (by omega)
              have c0 : wr.drew.cell? ⟨bx, 0, none⟩ = some (.int .i64 kk) := box_cell (HF.out.grow (Up.drew wr)).box 0 _ rfl
              have c1 : wr.drew.cell? ⟨bx, 1, none⟩ = some (.slice bo m bc) := box_cell (HF.out.grow (Up.drew wr)).box 1 _ rfl
              have c2 : wr.drew.cell? ⟨bx, 2, none⟩ = some (.int .u64 (px : Int)) := box_cell (HF.out.grow (Up.drew wr)).box 2 _ rfl
              have c3 : wr.drew.cell? ⟨bx, 3, none⟩ = some (.string psx) := box_cell (HF.out.grow (Up.drew wr)).box 3 _ rfl
              clear hR ht20 htm
              go_wp2_with fail
              go_cut [9, 10] (fun vc s10 wx => fe = s10 ∧ Hid (Rn0 W0 wx bx gb #[.int .i64 kk, .slice bo m bc, .int .u64 (px : Int), .string psx] (m + 20) (fullF pb)) ∧ Hid (Own wx 5 W0.heap.size vc C ∧ ∀ q, vc.ownBlock = some q → q ≠ gb))
              case first =>
                --DEV{
                go_region_with (first
                  | (go_at_call 29; refine (HCall.out _ (HF.out.grow (Up.drew wr))).mono ?_; rintro e w6 ⟨v6, rfl, ho6, hu6⟩))
                all_goals (
                  go_wp2_with fail
                  go_meet
                  case rel =>
                    have hd := HF.out.grow (Up.drew wr)
                    have hbk : ∀ q, v6.ownBlock = some q → q ≠ gb := fun q hq => by
                      have h1 := (World.ownsRow.lt ho6 q hq).1
                      have h2 := (World.ownsRow.lt hd.full gb rfl).2
                      omega
                    exact ⟨rfl, hd.grow hu6, own_low ho6 hd.up.size, hbk⟩)
                --}DEV
              case rest =>
                clear c0 c1 c2 c3 HF
                obtain ⟨hfe, HF, HOc⟩ := hcut
                subst hfe
                obtain ⟨vc, hvc⟩ : ∃ vc, vc = u9 := ⟨_, rfl⟩
                subst hvc
                have c0 : wc.drew.cell? ⟨bx, 0, none⟩ = some (.int .i64 kk) := box_cell (HF.out.grow (Up.drew wc)).box 0 _ rfl
                have c1 : wc.drew.cell? ⟨bx, 1, none⟩ = some (.slice bo m bc) := box_cell (HF.out.grow (Up.drew wc)).box 1 _ rfl
                have c2 : wc.drew.cell? ⟨bx, 2, none⟩ = some (.int .u64 (px : Int)) := box_cell (HF.out.grow (Up.drew wc)).box 2 _ rfl
                have c3 : wc.drew.cell? ⟨bx, 3, none⟩ = some (.string psx) := box_cell (HF.out.grow (Up.drew wc)).box 3 _ rfl
                go_wp2_with fail
                go_cut [11, 12] (fun vd s12 wx => fe = s12 ∧ Hid (Rn0 W0 wx bx gb #[.int .i64 kk, .slice bo m bc, .int .u64 (px : Int), .string psx] (m + 20) (fullF pb)) ∧ Hid (Own wx 5 W0.heap.size vc C ∧ ∀ q, vc.ownBlock = some q → q ≠ gb) ∧ Hid (Own wx 5 W0.heap.size vd C ∧ ∀ q, vd.ownBlock = some q → q ≠ gb ∧ vc.ownBlock ≠ some q))
                case first =>
                  --DEV{
                  go_region_with (first
                    | (go_at_call 29; refine (HCall.out _ (HF.out.grow (Up.drew wc))).mono ?_; rintro e w6 ⟨v6, rfl, ho6, hu6⟩))
                  all_goals (
                    go_wp2_with fail
                    go_meet
                    case rel =>
                      have hd := HF.out.grow (Up.drew wc)
                      have hcd := ownsRow_up HOc.out.1 (Up.drew wc)
                      have hbk : ∀ q, v6.ownBlock = some q → q ≠ gb ∧ vc.ownBlock ≠ some q := fun q hq => by
                        have h1 := (World.ownsRow.lt ho6 q hq).1
                        have h2 := (World.ownsRow.lt hd.full gb rfl).2
                        exact ⟨by omega, fun hq2 => by have h3 := (World.ownsRow.lt hcd q hq2).2; omega⟩
                      exact ⟨rfl, hd.grow hu6, ⟨ownsRow_up hcd hu6, HOc.out.2⟩, own_low ho6 hd.up.size, hbk⟩)
                  --}DEV
                case rest =>
                  clear c0 c1 c2 c3 HF HOc
                  obtain ⟨hfe, HF, HOc, HOd⟩ := hcut
                  subst hfe
                  obtain ⟨vd, hvd⟩ : ∃ vd, vd = u11 := ⟨_, rfl⟩
                  subst hvd
                  have hag : Hid (∀ u, Calls Tryd.prog 30 #[fe, fe] u fun e w' => e = .returned (.bool true) ∧ w' = u) := fun u => by
                    rcases HC.out.2.1 with e | ⟨a, e⟩
                    · rw [e]; exact agree_none u
                    · rw [e]; exact agree_same a u
                  have c1 : wc.cell? ⟨bx, 1, none⟩ = some (.slice bo m bc) := box_cell HF.out.box 1 _ rfl
                  have hnr := NewReader_any 0 (.slice (some ⟨gb, 0, none⟩) m (m + 20)) pb wc (HF.out.head Hm.out) (by have := Hm.out; omega)
                  go_wp2_with fail
                  refine hnr.mono ?_
                  rintro e w8 ⟨r, rfl, hr, hrd, hu8⟩
                  have HD : Hid (Rnd W0 w8 bx gb r wc.heap.size #[.int .i64 kk, .slice bo m bc, .int .u64 (px : Int), .string psx] (m + 20) vc vd C (fullF pb) pb) := by
                    have hf := HF.out
                    have hg := (World.ownsRow.lt hf.full gb rfl).2
                    have hbx : bx < wc.heap.size := (Array.getElem?_eq_some_iff.1 hf.box).1
                    exact ⟨hf.grow hu8, ownsRow_up HOc.out.1 hu8, ownsRow_up HOd.out.1 hu8, hrd, hg, hr, by omega,
                      fun q hq => ⟨HOc.out.2 q hq, (World.ownsRow.lt HOc.out.1 q hq).2⟩, fun q hq => ⟨(HOd.out.2 q hq).1, (World.ownsRow.lt HOd.out.1 q hq).2⟩, fun q hq hq2 => (HOd.out.2 q hq2).2 hq⟩
                  have Hr0 : Hid (W0.heap.size ≤ r) := by have := HF.out.up.size; show _ ≤ _; omega
                  generalize wc.heap.size = Br at HD
                  clear hnr hr hrd hu8 c1 HF HOc HOd
                  have c1 : w8.cell? ⟨bx, 1, none⟩ = some (.slice bo m bc) := box_cell HD.out.r0.box 1 _ rfl
                  have hal : Hid (∀ q, Calls Tryd.prog 24 #[vc, vd] (w8.drewN q) fun e w' => e = .returned (.bool true) ∧ w' = w8.drewN q) := fun q =>
                    alike_eq _ _ vc vd C _ (HD.out.grow (Up.drewQ w8 q)).c.sl (HD.out.grow (Up.drewQ w8 q)).d.sl
                  have hle : Hid (∀ q, Calls Tryd.prog 19 #[.pointer (some ⟨r, 0, none⟩)] (w8.drewN q) fun e w' => e = .returned (.int .i64 (m : Int)) ∧ w' = w8.drewN q) := fun q => by
                    have := Left_any Br r pb .nilIface _ (HD.out.grow (Up.drewQ w8 q)).rd
                    rwa [← Hm.out] at this
                  go_wp2_with fail
                  go_quiet (first
                    | (go_at_call 30; exact Calls.quiet_of_same (hag.out _))
                    | (go_at_call 24; exact Calls.quiet_of_same (hal.out _))
                    | (go_at_call 19; exact Calls.quiet_of_same (hle.out _)))
                  have HD2 : Hid (Rnd W0 (w8.drewN nq) bx gb r Br #[.int .i64 kk, .slice bo m bc, .int .u64 (px : Int), .string psx] (m + 20) vc vd C (turnF pb 0) pb) := by
                    rw [turnF_zero]; exact HD.out.grow (Up.drewQ w8 nq)
                  generalize w8.drewN nq = w9 at HD2 ⊢
                  clear c1 hal hle HD
                  go_wp2_with fail
                  go_loopg [14] (m + 20) (fun g kk2 wi => ∃ t : Nat, t ≤ m + 20 ∧ g = m + 20 - t ∧ kk2 = .int .i64 (t : Int) ∧ Hid (Rnd W0 wi bx gb r Br #[.int .i64 kk, .slice bo m bc, .int .u64 (px : Int), .string psx] (m + 20) vc vd C (turnF pb t) pb))
                  case atStart => exact ⟨0, by omega, rfl, rfl, HD2⟩
                  case round =>
                    clear HD2
                    obtain ⟨t, ht20, rfl, rfl, hD⟩ := hrel
                    have c1 : wr.cell? ⟨bx, 1, none⟩ = some (.slice bo m bc) := box_cell hD.out.r0.box 1 _ rfl
                    by_cases htm : t < m + 20
                    · have htI : (t : Int) < (m : Int) + 20 := by omega
                      have Htm : Hid (t < m + 20) := htm
                      --DEV{
                      have hflen := fullF_length pb
                      have htf : t < (fullF pb).length := by have := Hm.out; omega
                      have hcell : ∀ q, (wr.drewN q).cell? ⟨gb, t, none⟩ = some (B ((fullF pb)[t]'htf)) ∧ (wr.drewN q).frozen? ⟨gb, t, none⟩ = false := fun q => by
                        have hlen : t < (turnF pb t).length := by rw [turnF_length _ _ (by have := Hm.out; omega)]; have := Hm.out; omega
                        have h := (hD.out.grow (Up.drewQ wr q)).r0.at t hlen
                        have hget : (turnF pb t)[t]'hlen = (fullF pb)[t]'htf := by
                          have h2 := turnF_get pb t htf
                          rw [List.getElem?_eq_getElem hlen] at h2
                          exact Option.some.inj h2
                        rw [hget] at h
                        exact h
                      have hxf := xf_u8 ((fullF pb)[t]'htf)
                      have hnext : Hid (∀ q, Rnd W0 ((wr.drewN q).setCell ⟨gb, t, none⟩ (B (xf ((fullF pb)[t]'htf)))) bx gb r Br #[.int .i64 kk, .slice bo m bc, .int .u64 (px : Int), .string psx] (m + 20) vc vd C (turnF pb (t + 1)) pb) := fun q => by
                        have hlen : t < (turnF pb t).length := by rw [turnF_length _ _ (by have := Hm.out; omega)]; have := Hm.out; omega
                        have h := (hD.out.grow (Up.drewQ wr q)).set t hlen (xf ((fullF pb)[t]'htf))
                        rwa [turnF_next pb t htf] at h
                      have hcB : wr.cell? ⟨gb, t, none⟩ = some (B ((fullF pb)[t]'htf)) := (hcell 0).1
                      have Hcell : Hid (∀ q, (wr.drewN q).cell? ⟨gb, t, none⟩ = some (B ((fullF pb)[t]'htf)) ∧ (wr.drewN q).frozen? ⟨gb, t, none⟩ = false) := hcell
                      clear hcell
                      by_cases htb : t < m
                      · have htbI : (t : Int) < (m : Int) := by omega
                        have htp : t < pb.length := by rw [← Hm.out]; exact htb
                        obtain ⟨ap, cp, e1, _, _, hxp⟩ := Hsl.out.up hD.out.r0.up
                        obtain ⟨bp, op, e2, _, hatp⟩ := hxp (by rintro rfl; simp at htp)
                        simp only [Value.slice.injEq] at e1
                        obtain ⟨rfl, hme, rfl⟩ := e1
                        subst e2
                        clear hme
                        have hcP := hatp t htp
                        have hhd := fullF_head pb t htp htf
                        rw [hhd] at hcB hxf
                        have Hhd : Hid ((fullF pb)[t]'htf = pb[t]'htp) := hhd
                        rw [hhd] at Hcell hnext
                        generalize pb[t]'htp = cc at hcP hcB hxf Hcell hnext
                        generalize xf cc = xc at hxf hnext
                        have d1 : decide ((t : Int) < (m : Int)) = true := decide_eq_true htbI
                        have d2 : decide (t < m) = true := decide_eq_true htb
                        have d3 : decide ((m : Int) ≤ (t : Int)) = false := decide_eq_false (by omega)
                        have d4 : decide (m ≤ t) = false := decide_eq_false (by omega)
                        clear hatp hxp hhd Hhd htp hD htm hflen ht20
                        clear htf
                        go_wp2_with fail
                        go_quiet (fail)
                        obtain ⟨hcq, hfq⟩ := Hcell.out nq
                        have hnq : Hid (Rnd W0 ((wr.drewN nq).setCell ⟨gb, t, none⟩ (B xc)) bx gb r Br #[.int .i64 kk, .slice (some ⟨bp, op, none⟩) m bc, .int .u64 (px : Int), .string psx] (m + 20) vc vd C (turnF pb (t + 1)) pb) := hnext.out nq
                        generalize wr.drewN nq = wq at hcq hfq hnq ⊢
                        clear hcB hcP c1 Hcell hnext
                        go_wp2
                        go_roundg (m + 20 - (t + 1))
                        case measure => have := Htm.out; omega
                        case rel => exact ⟨t + 1, Htm.out, rfl, by go_num, hnq⟩
                      · have htbI : (m : Int) ≤ (t : Int) := by omega
                        have htl := fullF_tail pb t (by have := Hm.out; omega) htf
                        have hcB2 : wr.cell? ⟨gb, t, none⟩ = some (.int .u8 90) := by rw [hcB, htl]; rfl
                        rw [htl] at hxf Hcell hnext
                        have hxf2 : bits .xor .u8 90 255 = ((xf 0x5a).toNat : Int) := hxf
                        have Hcell2 : Hid (∀ q, (wr.drewN q).cell? ⟨gb, t, none⟩ = some (.int .u8 90) ∧ (wr.drewN q).frozen? ⟨gb, t, none⟩ = false) := Hcell.out
                        generalize xf 0x5a = xc at hxf2 hnext
                        have d1 : decide ((t : Int) < (m : Int)) = false := decide_eq_false (by omega)
                        have d2 : decide (t < m) = false := decide_eq_false htb
                        have d3 : decide ((m : Int) ≤ (t : Int)) = true := decide_eq_true (by omega)
                        have d4 : decide (m ≤ t) = true := decide_eq_true (by omega)
                        clear hcB htl hxf Hcell hD htm hflen ht20
                        clear htf
                        go_wp2_with fail
                        go_quiet (fail)
                        obtain ⟨hcq, hfq⟩ := Hcell2.out nq
                        have hnq : Hid (Rnd W0 ((wr.drewN nq).setCell ⟨gb, t, none⟩ (B xc)) bx gb r Br #[.int .i64 kk, .slice bo m bc, .int .u64 (px : Int), .string psx] (m + 20) vc vd C (turnF pb (t + 1)) pb) := hnext.out nq
                        generalize wr.drewN nq = wq at hcq hfq hnq ⊢
                        clear hcB2 c1 Hcell2 hnext
                        go_wp2
                        go_roundg (m + 20 - (t + 1))
                        case measure => have := Htm.out; omega
                        case rel => exact ⟨t + 1, Htm.out, rfl, by go_num, hnq⟩
                      --}DEV
                    · obtain rfl : t = m + 20 := by omega
                      have HD3 : Hid (Rnd W0 wr bx gb r Br #[.int .i64 kk, .slice bo m bc, .int .u64 (px : Int), .string psx] (m + 20) vc vd C (turnF pb (m + 20)) (pb.drop 0)) := hD
                      clear hD ht20 htm
                      go_wp2_with fail
                      go_loopg [15] m (fun g kk2 wi => ∃ t : Nat, t ≤ m ∧ g = m - t ∧ kk2 = .int .i64 (t : Int) ∧ Hid (Rnd W0 wi bx gb r Br #[.int .i64 kk, .slice bo m bc, .int .u64 (px : Int), .string psx] (m + 20) vc vd C (turnF pb (m + 20)) (pb.drop t)))
                      case atStart => exact ⟨0, by omega, rfl, rfl, HD3⟩
                      case round =>
                        clear HD3
                        obtain ⟨t, ht20, rfl, rfl, hD⟩ := hrel
                        have c1 : wr.cell? ⟨bx, 1, none⟩ = some (.slice bo m bc) := box_cell hD.out.r0.box 1 _ rfl
                        by_cases htm : t < m
                        · have htI : (t : Int) < (m : Int) := by omega
                          have Htm : Hid (t < m) := htm
                          --DEV{
                          have htp : t < pb.length := by rw [← Hm.out]; exact htm
                          have hDd := hD.out.grow (Up.drew wr)
                          have c1d : wr.drew.cell? ⟨bx, 1, none⟩ = some (.slice bo m bc) := box_cell hDd.r0.box 1 _ rfl
                          have HU8 : Hid (Calls Tryd.prog 21 #[.pointer (some ⟨r, 0, none⟩)] wr.drew fun e w' => e = .returned (B (pb[t]'htp)) ∧ Rnd W0 w' bx gb r Br #[.int .i64 kk, .slice bo m bc, .int .u64 (px : Int), .string psx] (m + 20) vc vd C (turnF pb (m + 20)) (pb.drop (t + 1))) := by
                            refine (U8_any Br r (pb.drop t) .nilIface _ wr.drew hDd.rd (.inl rfl) (HS1.out.up (hB.out.up.trans hDd.r0.up))).mono fun e w' ⟨h1, h2, h3⟩ => ⟨?_, ?_⟩
                            · rw [h1, (u8_next pb t htp).1]
                            · rw [(u8_next pb t htp).2.1, (u8_next pb t htp).2.2] at h2
                              exact hDd.read h2 h3 Hr0.out
                          have Hbyte : Hid (∀ u, Up W0 u → ∃ bp op, bo = some ⟨bp, op, none⟩ ∧ u.cell? ⟨bp, op + t, none⟩ = some (B (pb[t]'htp))) := fun u hu => by
                            obtain ⟨ap, cp, e1, _, _, hxp⟩ := Hsl.out.up hu
                            obtain ⟨bp, op, e2, _, hatp⟩ := hxp (by rintro rfl; simp at htp)
                            simp only [Value.slice.injEq] at e1
                            exact ⟨bp, op, e1.1.trans e2, hatp t htp⟩
                          obtain ⟨bp, op, hbo, hcP⟩ := Hbyte.out wr.drew hDd.r0.up
                          subst hbo
                          have HcP : Hid (∀ u, Up W0 u → u.cell? ⟨bp, op + t, none⟩ = some (B (pb[t]'htp))) := fun u hu => by
                            obtain ⟨bp2, op2, e, hc⟩ := Hbyte.out u hu
                            simp only [Option.some.injEq, Addr.mk.injEq, and_true] at e
                            obtain ⟨rfl, rfl⟩ := e
                            exact hc
                          generalize pb[t]'htp = cc at HU8 hcP HcP
                          clear Hbyte hDd hD htp htm ht20
                          go_wp2_with fail
                          clear c1
                          go_cut [175] (fun s175 wx => s175 = .bool false ∧ Hid (Rnd W0 wx bx gb r Br #[.int .i64 kk, .slice (some ⟨bp, op, none⟩) m bc, .int .u64 (px : Int), .string psx] (m + 20) vc vd C (turnF pb (m + 20)) (pb.drop (t + 1))))
                          case first =>
                            go_region_with (first
                              | (go_at_call 21; refine HU8.out.mono ?_; rintro e w6 ⟨rfl, h6⟩; have H6 : Hid (Rnd W0 w6 bx gb r Br #[.int .i64 kk, .slice (some ⟨bp, op, none⟩) m bc, .int .u64 (px : Int), .string psx] (m + 20) vc vd C (turnF pb (m + 20)) (pb.drop (t + 1))) := h6; have c16 : w6.cell? ⟨bx, 1, none⟩ = some (.slice (some ⟨bp, op, none⟩) m bc) := box_cell h6.r0.box 1 _ rfl; have cP6 := HcP.out w6 h6.r0.up; clear h6))
                            all_goals (
                              go_wp2_with fail
                              go_meet
                              case rel => exact ⟨by simp, H6⟩)
                          case rest =>
                            obtain ⟨h175, hD⟩ := hcut
                            subst h175
                            clear c1d HU8 hcP
                            go_wp2
                            go_roundg (m - (t + 1))
                            case measure => have := Htm.out; omega
                            case rel => exact ⟨t + 1, Htm.out, rfl, by go_num, hD⟩
                          --}DEV
                        · obtain rfl : t = m := by omega
                          clear ht20 htm
                          have c0 : wr.cell? ⟨bx, 0, none⟩ = some (.int .i64 kk) := box_cell hD.out.r0.box 0 _ rfl
                          have c2 : wr.cell? ⟨bx, 2, none⟩ = some (.int .u64 (px : Int)) := box_cell hD.out.r0.box 2 _ rfl
                          have c3 : wr.cell? ⟨bx, 3, none⟩ = some (.string psx) := box_cell hD.out.r0.box 3 _ rfl
                          have hcl := HC.out.1 (.slice bo pb.length bc) wr hD.out.r0.up (Hsl.out.up hD.out.r0.up)
                          rw [← Hm.out] at hcl
                          have Hcl : Hid (Calls Tryd.prog 29 #[.agg #[.int .i64 kk, .slice bo t bc, .int .u64 (px : Int), .string psx], .slice bo t bc] wr fun e w' => ∃ v', e = .returned (.tuple #[v', fe]) ∧ Own w' 5 wr.heap.size v' C ∧ Up wr w') := hcl
                          clear hcl
                          go_wp2_with fail
                          refine Hcl.out.mono ?_
                          rintro e w6 ⟨vg, rfl, hog, hu6⟩
                          clear c0 c1 c2 c3 Hcl
                          have Hoc : Hid (Own w6 5 W0.heap.size vc C) := ownsRow_up hD.out.c hu6
                          have Hod : Hid (Own w6 5 W0.heap.size vd C) := ownsRow_up hD.out.d hu6
                          have Hog : Hid (Own w6 5 W0.heap.size vg C) := own_low hog hD.out.r0.up.size
                          have Hup : Hid (Up W0 w6) := hD.out.r0.up.trans hu6
                          have D01 : Hid (∀ q, vc.ownBlock = some q → vd.ownBlock ≠ some q) := hD.out.cd
                          have D02 : Hid (∀ q, vc.ownBlock = some q → vg.ownBlock ≠ some q) := fun q h1 h2 => by
                            have a1 := (World.ownsRow.lt hD.out.c q h1).2
                            have a2 := (World.ownsRow.lt hog q h2).1
                            omega
                          have D12 : Hid (∀ q, vd.ownBlock = some q → vg.ownBlock ≠ some q) := fun q h1 h2 => by
                            have a1 := (World.ownsRow.lt hD.out.d q h1).2
                            have a2 := (World.ownsRow.lt hog q h2).1
                            omega
                          have HCb : Hid ((C.length : Int) ≤ 1000000) := by
                            have h1 := HC.out.2.2
                            have h2 := Hb.out.2.2
                            have h3 : t = pb.length := Hm.out
                            show _ ≤ _
                            omega
                          have Hal : Hid (Calls Tryd.prog 24 #[vg, vd] w6 fun e w' => e = .returned (.bool true) ∧ w' = w6) := alike_eq _ _ vg vd C w6 Hog.out.sl Hod.out.sl
                          have Hs3 : Hid ((∃ a n c, vc = .slice a n c) ∧ (∃ a n c, vd = .slice a n c) ∧ ∃ a n c, vg = .slice a n c) := by
                            refine ⟨?_, ?_, ?_⟩
                            · obtain ⟨a, c, e, _⟩ := Hoc.out.shape; exact ⟨a, _, c, e⟩
                            · obtain ⟨a, c, e, _⟩ := Hod.out.shape; exact ⟨a, _, c, e⟩
                            · obtain ⟨a, c, e, _⟩ := Hog.out.shape; exact ⟨a, _, c, e⟩
                          clear hog hu6 hD
                          obtain ⟨⟨ac, nc, cc, rfl⟩, ⟨ad', nd, cd, rfl⟩, ⟨ag, ng, cg, rfl⟩⟩ := Hs3.out
                          go_wp2_with fail
                          refine (hag.out _).mono ?_
                          rintro e w7 ⟨rfl, rfl⟩
                          go_wp2_with fail
                          refine Hal.out.mono ?_
                          rintro e w8 ⟨rfl, rfl⟩
                          go_wp2_with (at_builtin; refine wpList_book3 w1 W0 _ rfl (.tmp 193) (.tmp 197) rfl _ (3 * k) rfl _ _ _ C C C rfl hB.out Hup.out Hoc.out Hod.out Hog.out D01.out D02.out D12.out HCb.out HCb.out HCb.out (by have := H64.out; omega) ?_)
                          intro v' w' hBk
                          have HBk : Hid (Bk w1 w' v' (3 * (k + 1))) := hBk
                          clear hBk
                          go_wp2
                          go_roundg (64 - (k + 1))
                          case measure => have := H64.out; omega
                          case rel => exact ⟨k + 1, _, H64.out, rfl, by go_num, rfl, Hb.out.1, Hb.out.2.1, HBk⟩
      · go_wp2_with fail
        refine Hap.out.mono ?_
        rintro e w5 ⟨rfl, hu5⟩
        have hfin := hu1.trans hu5
        go_wp2
        go_ret
        exact ⟨rfl, hfin⟩
    · go_wp2_with fail
      refine Hap.out.mono ?_
      rintro e w5 ⟨rfl, hu5⟩
      have hfin := hu1.trans hu5
      go_wp2
      go_ret
      exact ⟨rfl, hfin⟩
end Go.Proofs.YtpjpjoefmnnpmaaDoor
