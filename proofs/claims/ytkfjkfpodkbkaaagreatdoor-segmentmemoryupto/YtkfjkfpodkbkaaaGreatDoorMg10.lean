/- Merged: DkLeft. -/
import Derived.Test.YtkfjkfpodkbkaaaGreatDoorMg09
import Derived.Deep.LoopGhost
set_option linter.unusedVariables false
set_option linter.unusedSimpArgs false
namespace Go.Proofs.YtkfjkfpodkbkaaaGreatDoor
open Go Go.RowKit

/-- A slice that reads as whole numbers, whatever they are. -/
def SlZ (w : World) (v : Value) (zs : List Int) : Prop :=
  ∃ ao cap, v = .slice ao zs.length cap ∧ zs.length ≤ cap ∧ (zs ≠ [] → ∃ b o, ao = some ⟨b, o, none⟩ ∧ ∀ i (h : i < zs.length), w.cell? ⟨b, o + i, none⟩ = some (.int .i64 zs[i]))

theorem Fil.Left.len {f : Fil} (h : f.Ok) {l : List Int} {c : Con} (hc : f.Left l c) : c.data.length ≤ f.seen.data.length :=
  (hc.long _).2 ⟨h.len, fun j _ => by unfold Fil.fin; omega⟩

/-- What a round of left keeps. -/
structure LeftR (w wr : World) (cb : Nat) (vd vb : Value) (c : Con) : Prop where
  inb : InBox wr cb 0 #[vd, vb] (w.heap.size + 1) vd vb c
  res : Box wr w.heap.size #[.slice none 0 0, .slice none 0 0]
  cbl : w.heap.size + 1 ≤ cb
  up : Up w wr

theorem LeftR.grow {w wr w' : World} {cb : Nat} {vd vb vd' vb' : Value} {c c' : Con} (h : LeftR w wr cb vd vb c) (hI : InBox w' cb 0 #[vd', vb'] (w.heap.size + 1) vd' vb' c') (t : Touch wr w' (cb :: ob vd ++ ob vb)) : LeftR w w' cb vd' vb' c' := by
  have hS : ∀ k ∈ cb :: ob vd ++ ob vb, w.heap.size + 1 ≤ k := fun k hk => by
    simp only [List.cons_append, List.mem_cons, List.mem_append] at hk
    rcases hk with rfl | hk | hk
    · exact h.cbl
    · exact (h.inb.dat.ge k hk).1
    · exact (h.inb.bad.ge k hk).1
  refine ⟨hI, t.box h.res (fun hm => by have := hS _ hm; omega), h.cbl, ?_⟩
  exact Touch.up ((Touch.of_up h.up (cb :: ob vd ++ ob vb)).trans t (fun k hk => .inl hk)) (fun k hk => by have := hS k hk; omega)
theorem LeftR.more {w wr w' : World} {cb : Nat} {vd vb : Value} {c : Con} (h : LeftR w wr cb vd vb c) (u : Up wr w') : LeftR w w' cb vd vb c :=
  ⟨h.inb.up u, h.res.up u, h.cbl, h.up.trans u⟩

theorem FileV.up {w w' : World} {base fb : Nat} {age : Int} {vs vsb vf vfb : Value} {F : Fil} (h : FileV w base fb age vs vsb vf vfb F) (u : Up w w') : FileV w' base fb age vs vsb vf vfb F := h.kept (Touch.of_up u []) (fun _ _ => by simp)

theorem cell_upD {w w' : World} {b o : Nat} {v : Value} (h : w.cell? ⟨b, o, none⟩ = some v) (hu : Up w w') : w'.cell? ⟨b, o, none⟩ = some v := by
  rw [hu.cell (World.block_lt_of_cell? w _ h)]; exact h

theorem Copied.boxed {w w2 : World} {vd vb : Value} {c : Con} {x y : Value} (h : Copied (w.alloc (.cells #[x, y] 98)) w2 (w.alloc (.cells #[x, y] 98)).heap.size vd vb c) (hxy : x = .slice none 0 0 ∧ y = .slice none 0 0) :
    LeftR w (w2.alloc (.cells #[vd, vb] 98)) w2.heap.size vd vb c := by
  obtain ⟨rfl, rfl⟩ := hxy
  have hz : (w.alloc (.cells #[.slice none 0 0, .slice none 0 0] 98)).heap.size = w.heap.size + 1 := by simp
  have hs := h.up.size
  rw [hz] at hs
  have hd := h.dat
  have hb := h.bad
  rw [hz] at hd hb
  have ua : Up w2 (w2.alloc (.cells #[vd, vb] 98)) := Up.alloc _ _
  refine ⟨⟨Box.new _ _ _, rfl, rfl, hd.up ua, hb.up ua, ?_⟩, (Box.new w _ _).up (h.up.trans ua), hs, (Up.alloc _ _).trans (h.up.trans ua)⟩
  rw [List.cons_append, List.nodup_cons]
  refine ⟨fun hm => ?_, h.nd⟩
  rcases List.mem_append.1 hm with hm | hm
  · have := hd.ge _ hm; omega
  · have := hb.ge _ hm; omega

theorem LeftR.done {w wr : World} {cb : Nat} {vd vb : Value} {c : Con} (h : LeftR w wr cb vd vb c) : Copied w ((wr.setCell ⟨w.heap.size, 0, none⟩ vd).setCell ⟨w.heap.size, 1, none⟩ vb) w.heap.size vd vb c := by
  have t : Touch wr ((wr.setCell ⟨w.heap.size, 0, none⟩ vd).setCell ⟨w.heap.size, 1, none⟩ vb) [w.heap.size] := ((Touch.refl _ _).setCell (.inl (by simp)) _ _).setCell (.inl (by simp)) _ _
  have nd := h.inb.nd
  rw [List.cons_append, List.nodup_cons] at nd
  refine ⟨OwnB.rebase (base := w.heap.size + 1) (Touch.row h.inb.dat t (fun k hk => by have := h.inb.dat.ge k (mem_ob.2 hk); simp; omega)) (by omega), OwnN.rebase (base := w.heap.size + 1) (Touch.row h.inb.bad t (fun k hk => by have := h.inb.bad.ge k (mem_ob.2 hk); simp; omega)) (by omega), nd.2, ?_⟩
  exact (h.up.setCell (by simp) _).setCell (by simp) _

/-- A round of left that writes the sector, or spoils it. -/
theorem left_put {w wr u : World} {cb fb base : Nat} {age : Int} {vd vb vs vsb vf vfb : Value} {F : Fil} {c : Con} {l : List Int} {g capS I : Nat} (h : LeftR w wr cb vd vb c) (hV : FileV w base fb age (.slice (some ⟨g, 0, none⟩) F.seen.data.length capS) vsb vf vfb F) (hok : F.Ok) (hl : F.seen.data.length ≤ CB) (hc : F.Left l c) (hI : 512 * I < F.seen.data.length) (hu : Up wr u) :
    Calls Tryz.prog 101 #[.pointer (some ⟨cb, 0, none⟩), .int .i64 ((512 * I : Nat) : Int), .slice (some ⟨g, 512 * I, none⟩) (sect F.seen.data I).length (capS - 512 * I)] u fun e w' => e = .returned (.tuple #[]) ∧ ∃ vd' vb', LeftR w w' cb vd' vb' (c.put (512 * I) (sect F.seen.data I)) := by
  have hr := h.more hu
  have hlen := hc.len hok
  have few := hc.ok.few
  have hgw : g < w.heap.size := (World.ownsRow.lt hV.sd g rfl).2
  have hS : Sl 0 u (.slice (some ⟨g, 512 * I, none⟩) (sect F.seen.data I).length (capS - 512 * I)) (sect F.seen.data I) := by
    have h0 := OwnB.sl0 (hV.up (h.up.trans hu)).sd (512 * I) hI g rfl
    obtain ⟨ao, cap, e, h1, h2, h3⟩ := h0
    simp only [Value.slice.injEq] at e
    obtain ⟨rfl, e2, rfl⟩ := e
    have hle : (sect F.seen.data I).length ≤ (F.seen.data.drop (512 * I)).length := by rw [sect_length, List.length_drop]; omega
    refine ⟨_, _, rfl, by omega, h2, fun hne => ?_⟩
    obtain ⟨b, o, e3, h4, h5⟩ := h3 (by intro e; unfold sect at hne; rw [e] at hne; simp at hne)
    refine ⟨b, o, e3, h4, fun i hi => ?_⟩
    rw [h5 i (by omega)]
    exact congrArg (fun z => some (B z)) (List.getElem_take (h := hi)).symm
  have hp := put_any (w.heap.size + 1) cb 0 (512 * I) _ vd vb _ c (sect F.seen.data I) u hr.inb hc.ok.rise (Nat.le_trans (by have := h.res.lt; omega) hu.size) hS
    (fun _ k hk => by
      simp only [Value.ownBlock, Option.some.injEq] at hk
      subst hk
      refine ⟨fun hm => ?_, fun e => ?_⟩
      · have := (hr.inb.dat.ge _ hm).1; omega
      · have := h.cbl; omega)
    (by rw [sect_length]; omega) (by omega) (by unfold CB at hl; unfold sec at few; omega)
  refine hp.mono ?_
  rintro e w' ⟨vd', vb', rfl, hI', h1, h2, t⟩
  exact ⟨rfl, vd', vb', hr.grow hI' t⟩

theorem left_spoil {w wr u : World} {cb fb base : Nat} {age : Int} {vd vb vs vsb vf vfb : Value} {F : Fil} {c : Con} {l : List Int} {I : Nat} (h : LeftR w wr cb vd vb c) (hok : F.Ok) (hl : F.seen.data.length ≤ CB) (hc : F.Left l c) (hI : 512 * I < F.seen.data.length) (hu : Up wr u) :
    Calls Tryz.prog 102 #[.pointer (some ⟨cb, 0, none⟩), .int .i64 (I : Int), .int .i64 ((sect F.seen.data I).length : Int)] u fun e w' => e = .returned (.tuple #[]) ∧ ∃ vd' vb', LeftR w w' cb vd' vb' (c.spoil I (sect F.seen.data I).length) := by
  have hr := h.more hu
  have hlen := hc.len hok
  have few := hc.ok.few
  have hp := spoil_any (w.heap.size + 1) cb 0 I (sect F.seen.data I).length _ vd vb c u hr.inb hc.ok (Nat.le_trans (by have := h.res.lt; omega) hu.size) (by rw [sect_length]; omega) (by rw [sect_length]; omega) (by omega) (by unfold CB at hl; unfold sec at few; omega)
  refine hp.mono ?_
  rintro e w' ⟨vd', vb', rfl, hI', h1, h2, t⟩
  exact ⟨rfl, vd', vb', hr.grow hI' t⟩

set_option maxRecDepth 20000 in
set_option maxHeartbeats 1000000 in
theorem left_any (base fb : Nat) (age : Int) (F : Fil) (L : List Nat) (vl : Value) (l : List Int) (w : World) (hF : FileAt w base fb age F L) (hok : F.Ok) (hl : F.seen.data.length ≤ CB) (hv : SlZ w vl l) (hn : l.length ≤ F.waiting) :
    Calls Tryz.prog 55 #[.pointer (some ⟨fb, 0, none⟩), vl] w fun e w' => ∃ vd' vb', e = .returned (.agg #[vd', vb']) ∧ Copied w w' w.heap.size vd' vb' (F.left l) := by
  obtain ⟨vs, vsb, vf, vfb, hV, rfl⟩ := hF
  obtain ⟨ps, capS, rfl⟩ := hV.sd.slice
  obtain ⟨psb, capB, rfl⟩ := hV.sb.slice
  obtain ⟨pf, capF, rfl⟩ := hV.fd.slice
  obtain ⟨pfb, capG, rfl⟩ := hV.fbd.slice
  obtain ⟨ao, cap, rfl, hcap, hx⟩ := hv
  have few := hok.saf.few
  have len := hok.len
  have hclone := fun (u : World) (hu : Up w u) => clone_any (.slice pf F.safe.data.length capF) (.slice pfb F.safe.bad.length capG) F.safe u
    (by obtain ⟨a, b, c, d, e, f⟩ := (hV.fd.up hu).sl; exact ⟨a, b, c, d, e, fun h => by obtain ⟨g, o, h1, _, h3⟩ := f h; exact ⟨g, o, h1, Nat.zero_le _, h3⟩⟩)
    (by obtain ⟨a, b, c, d, e, f⟩ := (hV.fbd.up hu).sl; exact ⟨a, b, c, d, e, fun h => by obtain ⟨g, o, h1, _, h3⟩ := f h; exact ⟨g, o, h1, Nat.zero_le _, h3⟩⟩)
    (by unfold CB at hl ⊢; omega) (by unfold CB at hl; unfold sec at few; omega)
  have c3 : w.cell? ⟨fb, 3, none⟩ = some (.slice pf F.safe.data.length capF) := hV.box.cell 3
  have c4 : w.cell? ⟨fb, 4, none⟩ = some (.slice pfb F.safe.bad.length capG) := hV.box.cell 4
  have hlt : fb < w.heap.size := hV.box.lt
  have HC : Hid (∀ (u : World), Up w u → Calls Tryz.prog 64 #[.agg #[.slice pf F.safe.data.length capF, .slice pfb F.safe.bad.length capG]] u fun e w' => ∃ vd' vb', e = .returned (.agg #[vd', vb']) ∧ Copied u w' u.heap.size vd' vb' F.safe) := hclone
  have HA : Hid (FileV w base fb age (.slice ps F.seen.data.length capS) (.slice psb F.seen.bad.length capB) (.slice pf F.safe.data.length capF) (.slice pfb F.safe.bad.length capG) F ∧ F.Ok ∧ F.seen.data.length ≤ CB ∧ l.length ≤ F.waiting ∧ (l ≠ [] → ∃ b o, ao = some ⟨b, o, none⟩ ∧ ∀ i (h : i < l.length), w.cell? ⟨b, o + i, none⟩ = some (.int .i64 l[i]))) := ⟨hV, hok, hl, hn, hx⟩
  clear hclone few len hl hn hx hok hV
  go_enter Tryz.func55, Tryz.ntmps55
  go_wp2_with fail
  refine (HC.out _ (Up.alloc _ _)).mono ?_
  rintro e w2 ⟨vd, vb, rfl, hcp⟩
  obtain ⟨pd, qd, rfl⟩ := hcp.dat.slice
  obtain ⟨pb, qb, rfl⟩ := hcp.bad.slice
  have H2 : Hid (LeftR w (w2.alloc (.cells #[.slice pd F.safe.data.length qd, .slice pb F.safe.bad.length qb] 98)) w2.heap.size (.slice pd F.safe.data.length qd) (.slice pb F.safe.bad.length qb) (F.left (l.take 0))) := by
    have := hcp.boxed ⟨rfl, rfl⟩
    rw [List.take_zero]
    exact this
  clear hcp HC c3 c4 hlt
  go_wp2
  go_loopg [17] l.length (fun g i wr => ∃ (k : Nat) (vd vb : Value), k ≤ l.length ∧ g = l.length - k ∧ i = .int .i64 k ∧ Hid (LeftR w wr w2.heap.size vd vb (F.left (l.take k))))
  case atStart => exact ⟨0, _, _, by omega, rfl, rfl, H2⟩
  case round =>
    clear H2
    obtain ⟨k, vd, vb, hk, rfl, rfl, HR⟩ := hrel
    by_cases hlt : k < l.length
    · obtain ⟨hV, hok, hl, hn, hx⟩ := HA.out
      obtain ⟨b, o, rfl, hat⟩ := hx (by rintro rfl; simp at hlt)
      have hci : wr.cell? ⟨b, o + k, none⟩ = some (.int .i64 (l[k]'hlt)) := cell_upD (hat k hlt) HR.out.up
      have hI : 512 * (F.waits + k) < F.seen.data.length := sec_lt.1 (by unfold Fil.waiting at hn; omega)
      have hVr := hV.up HR.out.up
      have c5 : wr.cell? ⟨fb, 5, none⟩ = some (.int .i64 (F.waits : Int)) := hVr.box.cell 5
      have c1 : wr.cell? ⟨fb, 1, none⟩ = some (.slice ps F.seen.data.length capS) := hVr.box.cell 1
      have c2 : wr.cell? ⟨fb, 2, none⟩ = some (.slice psb F.seen.bad.length capB) := hVr.box.cell 2
      obtain ⟨g, rfl⟩ : ∃ g, ps = some ⟨g, 0, none⟩ := by
        rcases hV.sd.parts with ⟨e, e2⟩ | ⟨g, cap', cur, e, _⟩
        · rw [e2] at hI; simp at hI
        · simp only [Value.slice.injEq] at e; exact ⟨g, e.1⟩
      have hst : F.left (l.take (k + 1)) = F.fated (F.left (l.take k)) (F.waits + k) (l[k]'hlt) := by
        have e : l.take (k + 1) = l.take k ++ [l[k]] := by rw [List.take_succ_eq_append_getElem hlt]
        rw [e, F.left_snoc, List.length_take, Nat.min_eq_left (by omega)]
      have hLf : F.Left (l.take k) (F.left (l.take k)) := hok.left_is _ (by rw [List.length_take]; omega)
      obtain ⟨I, hIe⟩ : ∃ I, F.waits + k = I := ⟨_, rfl⟩
      rw [hIe] at hst hI
      have e1 : (F.waits : Int) + (k : Int) = (I : Int) := by omega
      have e2 : (I : Int) ≤ 4611686018427387904 := by unfold CB at hl; omega
      have e3 : (0 : Int) ≤ (I : Int) := by omega
      have HS : Hid (∀ u, Calls Tryz.prog 95 #[.agg #[.slice (some ⟨g, 0, none⟩) F.seen.data.length capS, .slice psb F.seen.bad.length capB], .int .i64 (I : Int)] u fun e w' => e = .returned (.slice (some ⟨g, 512 * I, none⟩) (sect F.seen.data I).length (capS - 512 * I)) ∧ Up u w') := fun u => sector_any F.seen _ capS _ I u hI hl hV.sd.cap.2.1 g rfl
      have HPut : Hid (∀ u, Up wr u → Calls Tryz.prog 101 #[.pointer (some ⟨w2.heap.size, 0, none⟩), .int .i64 ((512 * I : Nat) : Int), .slice (some ⟨g, 512 * I, none⟩) (sect F.seen.data I).length (capS - 512 * I)] u fun e w' => e = .returned (.tuple #[]) ∧ ∃ vd' vb', LeftR w w' w2.heap.size vd' vb' ((F.left (l.take k)).put (512 * I) (sect F.seen.data I))) := fun u hu => left_put (vs := .slice none 0 0) HR.out hV hok hl hLf hI hu
      have HSp : Hid (∀ u, Up wr u → Calls Tryz.prog 102 #[.pointer (some ⟨w2.heap.size, 0, none⟩), .int .i64 (I : Int), .int .i64 ((sect F.seen.data I).length : Int)] u fun e w' => e = .returned (.tuple #[]) ∧ ∃ vd' vb', LeftR w w' w2.heap.size vd' vb' ((F.left (l.take k)).spoil I (sect F.seen.data I).length)) := fun u hu => left_spoil (vs := .slice none 0 0) (vsb := .slice none 0 0) (vf := .slice none 0 0) (vfb := .slice none 0 0) (fb := 0) (base := 0) (age := 0) HR.out hok hl hLf hI hu
      have Hlt : Hid (k < l.length) := hlt
      have HX : Hid (∃ x, l[k]'hlt = x) := ⟨_, rfl⟩
      obtain ⟨x, hx2⟩ := HX
      rw [hx2] at hci hst
      have HN : Hid (F.left (l.take (k + 1)) = F.fated (F.left (l.take k)) I x) := hst
      obtain ⟨n, hnn⟩ : ∃ n, (sect F.seen.data I).length = n := ⟨_, rfl⟩
      obtain ⟨S, hS⟩ : ∃ S, 512 * I = S := ⟨_, rfl⟩
      have e4 : (I : Int) * 512 = (S : Int) := by omega
      have e5 : (S : Int) ≤ 4611686018427387904 := by unfold CB at hl; omega
      have e6 : (0 : Int) ≤ (S : Int) := by omega
      rw [hnn, hS] at HS HPut
      rw [hnn] at HSp
      have HF : Hid ((sect F.seen.data I).length = n ∧ 512 * I = S) := ⟨hnn, hS⟩
      clear hnn hS hst hx2 hLf hIe hVr hI hat hx hn hl hok hV hlt
      go_wp2_with fail
      refine (HS.out _).mono ?_
      rintro e w4 ⟨rfl, u4⟩
      have H4 : Hid (Up wr w4) := u4
      clear u4 HS
      by_cases x0 : x = 0
      · subst x0
        go_wp2
        go_roundg (l.length - (k + 1))
        case measure => have := Hlt.out; omega
        case rel =>
          refine ⟨k + 1, vd, vb, Hlt.out, rfl, by go_num, ?_⟩
          have := HR.out.more H4.out
          rw [HN.out]
          unfold Fil.fated
          rw [if_pos rfl]
          exact this
      · by_cases x1 : x = 1
        · subst x1
          go_wp2_with fail
          refine (HPut.out _ H4.out).mono ?_
          rintro e w5 ⟨rfl, vd', vb', h5⟩
          have H5 : Hid (LeftR w w5 w2.heap.size vd' vb' (F.left (l.take (k + 1)))) := by
            rw [HN.out]
            unfold Fil.fated
            rw [if_neg (by decide), if_pos rfl, HF.out.2]
            exact h5
          clear h5
          go_wp2
          go_roundg (l.length - (k + 1))
          case measure => have := Hlt.out; omega
          case rel => exact ⟨k + 1, vd', vb', Hlt.out, rfl, by go_num, H5⟩
        · have y0 : (x == 0) = false := by simp [x0]
          have y1 : (x == 1) = false := by simp [x1]
          go_wp2_with fail
          refine (HSp.out _ H4.out).mono ?_
          rintro e w5 ⟨rfl, vd', vb', h5⟩
          have H5 : Hid (LeftR w w5 w2.heap.size vd' vb' (F.left (l.take (k + 1)))) := by
            rw [HN.out]
            unfold Fil.fated
            rw [if_neg x0, if_neg x1, HF.out.1]
            exact h5
          clear h5
          go_wp2
          go_roundg (l.length - (k + 1))
          case measure => have := Hlt.out; omega
          case rel => exact ⟨k + 1, vd', vb', Hlt.out, rfl, by go_num, H5⟩
    · obtain rfl : k = l.length := by omega
      rw [List.take_length] at HR
      have k0 : wr.cell? ⟨w2.heap.size, 0, none⟩ = some vd := HR.out.inb.box.cell 0
      have k1 : wr.cell? ⟨w2.heap.size, 1, none⟩ = some vb := HR.out.inb.box.cell 1
      have r0 := HR.out.res.cell 0
      have r1 := HR.out.res.cell 1
      have f0 := HR.out.res.frozen 0
      have f1 := HR.out.res.frozen 1
      obtain ⟨p1, q1, rfl⟩ := HR.out.inb.dat.slice
      obtain ⟨p2, q2, rfl⟩ := HR.out.inb.bad.slice
      have b9 := (HR.out.res.set 0 (.slice p1 (F.left l).data.length q1)).set 1 (.slice p2 (F.left l).bad.length q2)
      have d0 := b9.cell 0
      have d1 := b9.cell 1
      clear hlt
      go_wp2
      refine bodyPost_ret (v := .agg #[.slice p1 (F.left l).data.length q1, .slice p2 (F.left l).bad.length q2]) (by simp [results, Tryz.results55, go_sem, d0, d1]) rfl ⟨_, _, rfl, HR.out.done⟩

end Go.Proofs.YtkfjkfpodkbkaaaGreatDoor
