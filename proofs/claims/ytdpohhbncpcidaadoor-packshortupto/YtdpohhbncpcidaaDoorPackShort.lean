/- The law PackShort returns true for every slice of Puts and every cut, and changes nothing that was there, where the package variables of errors hold their errors. -/
import Derived.Test.YtdpohhbncpcidaaDoorPackBack
import Derived.Deep.RegionWith
set_option linter.unusedVariables false
namespace Go.Proofs.YtdpohhbncpcidaaDoor
open Go Go.RowKit

/-- A reader that has met the fault ErrShort, with these bytes left; where memory has got to from w0 on. -/
structure Flt (b1 r : Nat) (bs : List UInt8) (aS aF aN : Addr) (w0 w : World) : Prop where
  rd : Rdr b1 w r bs (E aS)
  es : Errs w aS aF aN
  up : Up w0 w
  hr : w0.heap.size ≤ r
theorem Flt.drew {b1 r : Nat} {bs : List UInt8} {aS aF aN : Addr} {w0 w : World} (h : Flt b1 r bs aS aF aN w0 w) : Flt b1 r bs aS aF aN w0 w.drew :=
  ⟨h.rd.up (Up.drew _), h.es.up (Up.drew _), h.up.trans (Up.drew _), h.hr⟩
theorem Flt.step {b1 r : Nat} {bs : List UInt8} {aS aF aN : Addr} {w0 w w' : World} (h : Flt b1 r bs aS aF aN w0 w) (hrd : Rdr b1 w' r bs (E aS)) (hb : But r w w') : Flt b1 r bs aS aF aN w0 w' :=
  ⟨hrd, h.es.rdr h.rd hb, Below.trans h.up (But.below hb h.hr h.up.size), h.hr⟩
theorem Flt.cell {b1 r : Nat} {bs : List UInt8} {aS aF aN : Addr} {w0 w : World} (h : Flt b1 r bs aS aF aN w0 w) : w.cell? ⟨0, 0, none⟩ = some (E aS) := h.es.short.cell

theorem flt_U8 {b1 r : Nat} {bs : List UInt8} {aS aF aN : Addr} {w0 w : World} (h : Flt b1 r bs aS aF aN w0 w) :
    Calls Tryd.prog 21 #[.pointer (some ⟨r, 0, none⟩)] w fun e w' => e = .returned (.int .u8 0) ∧ Flt b1 r bs aS aF aN w0 w' := by
  refine (U8_any b1 r bs (E aS) aS w h.rd (.inr ⟨_, rfl⟩) h.es.short).mono ?_
  rintro e w' ⟨rfl, h1, h2⟩
  exact ⟨rfl, h.step h1 h2⟩
theorem flt_Text {b1 r : Nat} {bs : List UInt8} {aS aF aN : Addr} {w0 w : World} (h : Flt b1 r bs aS aF aN w0 w) :
    Calls Tryd.prog 22 #[.pointer (some ⟨r, 0, none⟩)] w fun e w' => e = .returned (.string ⟨#[]⟩) ∧ Flt b1 r bs aS aF aN w0 w' := by
  refine (Text_any b1 r bs (E aS) aS w h.rd (.inr ⟨_, rfl⟩) h.es.short).mono ?_
  rintro e w' ⟨rfl, h1, h2⟩
  exact ⟨rfl, h.step h1 h2⟩
theorem flt_Left {b1 r : Nat} {bs : List UInt8} {aS aF aN : Addr} {w0 w : World} (h : Flt b1 r bs aS aF aN w0 w) (m : Int) (hm : (bs.length : Int) = m) :
    Calls Tryd.prog 19 #[.pointer (some ⟨r, 0, none⟩)] w fun e w' => e = .returned (.int .i64 m) ∧ w' = w ∧ Flt b1 r bs aS aF aN w0 w' := by
  refine (Left_any b1 r bs (E aS) w h.rd).mono ?_
  rintro e w' ⟨rfl, rfl⟩
  exact ⟨by rw [hm], rfl, h⟩
theorem flt_Err {b1 r : Nat} {bs : List UInt8} {aS aF aN : Addr} {w0 w : World} (h : Flt b1 r bs aS aF aN w0 w) :
    Calls Tryd.prog 18 #[.pointer (some ⟨r, 0, none⟩)] w fun e w' => e = .returned (E aS) ∧ w' = w ∧ Flt b1 r bs aS aF aN w0 w' := by
  refine (Err_any b1 r bs (E aS) w h.rd).mono ?_
  rintro e w' ⟨rfl, rfl⟩
  exact ⟨rfl, rfl, h⟩
theorem flt_End {b1 r : Nat} {bs : List UInt8} {aS aF aN : Addr} {w0 w : World} (h : Flt b1 r bs aS aF aN w0 w) :
    Calls Tryd.prog 20 #[.pointer (some ⟨r, 0, none⟩)] w fun e w' => e = .returned (E aS) ∧ w' = w ∧ Flt b1 r bs aS aF aN w0 w' := by
  refine (End_any b1 r bs (E aS) aF w h.rd (.inr ⟨_, rfl⟩) h.es.form).mono ?_
  rintro e w' ⟨rfl, rfl⟩
  exact ⟨rfl, rfl, h⟩

theorem ends_open {w : World} {v : Value} {ps : List PutD} (h : Ints w v (endsP ps ps.length)) :
    ∃ ao cap, v = .slice ao ps.length cap ∧ ∀ k, k < ps.length → ∃ b o, ao = some ⟨b, o, none⟩ ∧ w.cell? ⟨b, o + k, none⟩ = some (.int .i64 ((catP (ps.take (k + 1))).length : Int)) := by
  obtain ⟨ao, cap, rfl, hx⟩ := h
  refine ⟨ao, cap, by rw [endsP_length], fun k hk => ?_⟩
  obtain ⟨b, o, rfl, hc⟩ := hx (by intro e; have := endsP_length ps ps.length; rw [e] at this; simp at this; omega)
  refine ⟨b, o, rfl, ?_⟩
  have := hc k (by rw [endsP_length]; exact hk)
  rw [this]
  simp [endsP]

set_option maxRecDepth 20000 in
set_option maxHeartbeats 6400000 in
theorem PackShort_any (v : Value) (ps : List PutD) (c : Int) (w : World) (txt : Nat → List UInt8) (ad : Nat → Addr) (hp : PutsIn w v ps) (hlen : ps.length ≤ 140737488351232) (hls : ∀ p ∈ ps, (p.2.2.2.size : Int) ≤ 1048576) (h : ErrSet fourErrs txt w ad) :
    Calls Tryd.prog 6 #[v, .int .i64 c] w fun e w' => e = .returned (.bool true) ∧ Up w w' := by
  have he := h.errs (by decide) (by decide) (by decide)
  have hL := (h 3 (by decide)).1
  have hp0 := hp
  obtain ⟨ao, cap, rfl, hpx⟩ := hp
  go_enter Tryd.func6, Tryd.ntmps6
  go_wp2_with fail
  refine (lives_any _ _ _ _ he).mono ?_
  rintro e w1 ⟨rfl, hu1⟩
  have hp1 : PutsIn w1 (.slice ao ps.length cap) ps := by
    obtain ⟨a', c', e1, hx'⟩ := hp0
    exact ⟨a', c', e1, fun hne => by obtain ⟨b, o, e2, hc⟩ := hx' hne; exact ⟨b, o, e2, fun i hi => (hc i hi).up hu1⟩⟩
  go_wp2_with fail
  refine (row_any _ ps _ _ hp1 hlen hls (hL.up hu1)).mono ?_
  rintro e w2 ⟨hu2, rfl | ⟨vb, ve, rfl, hsl, hends, hmany, hno⟩⟩
  · have hup := hu1.trans hu2
    clear hp1 hp0 hpx hls he hL h
    go_wp2
    go_ret
    exact ⟨rfl, hup⟩
  have hcl := cat_len ps hmany hno
  have hup := hu1.trans hu2
  have Hno : Hid _ := hno
  obtain ⟨ae, ce, rfl, hex⟩ := ends_open hends
  clear hp1 hp0 hls hL hu1 hu2 hends hno
  have hsl0 := hsl
  obtain ⟨ab, cb, rfl, _⟩ := hsl0
  by_cases hc0 : c < 0
  · clear hpx hex hsl
    go_wp2
    go_ret
    exact ⟨rfl, hup⟩
  obtain ⟨n, rfl⟩ := Int.eq_ofNat_of_zero_le (show 0 ≤ c by omega)
  by_cases hc1 : ((catP ps).length : Int) ≤ (n : Int)
  · clear hpx hex hsl
    go_wp2
    go_ret
    exact ⟨rfl, hup⟩
  obtain ⟨vc, cc, _, qc', _⟩ := sl_cut hsl 0 n (by omega) (by omega)
  have qc := qc' rfl
  simp only [List.drop_zero, Nat.sub_zero] at cc
  clear qc' hsl
  go_wp2_with fail
  refine (NewReader_any 0 vc ((catP ps).take n) _ cc (by simp only [List.length_take]; omega)).mono ?_
  rintro e w3 ⟨r, rfl, hr2, hrd2, hu3⟩
  have hup23 : Up w2 w3 := hu3
  have Hex : Hid (∀ u, Up w2 u → ∀ k, k < ps.length → ∃ b o, ae = some ⟨b, o, none⟩ ∧ u.cell? ⟨b, o + k, none⟩ = some (.int .i64 ((catP (ps.take (k + 1))).length : Int))) := by
    intro u hu k hk
    obtain ⟨b, o, e, hc⟩ := hex k hk
    exact ⟨b, o, e, (hu.cell (p := ⟨b, o + k, none⟩) (World.block_lt_of_cell? w2 _ hc)).trans hc⟩
  clear hu3 cc hex qc
  go_wp2
  go_loopw [9, 10] (fun l i wr => ∃ k : Nat, k ≤ ps.length ∧ i = .int .i64 k ∧ (∃ L : Nat, L = (catP (ps.take k)).length ∧ L ≤ n ∧ l = .int .i64 ((n : Int) - (L : Int))) ∧ Rdr w2.heap.size wr r ((catP (ps.drop k)).take (n - (catP (ps.take k)).length)) .nilIface ∧ Up w2 wr) (fun _ i _ => ps.length - (intOf i).toNat)
  case atStart => exact ⟨0, Nat.zero_le _, rfl, ⟨0, by simp [catP], Nat.zero_le _, by simp⟩, by simpa [catP] using hrd2, hup23⟩
  case round =>
    obtain ⟨k, hk, rfl, ⟨L, hLe, hLn, rfl⟩, hrd, hb⟩ := hrel
    have hewr := he.up (hup.trans hb)
    by_cases hlt : k < ps.length
    · obtain ⟨b, o, rfl, hcell⟩ := hpx (by rintro rfl; simp at hlt)
      have hpa := (hcell k hlt).up (hup.trans hb)
      obtain ⟨be, oe, rfl, hce⟩ := Hex.out wr hb k hlt
      have hct := catP_drop ps k hlt
      have hct2 := catP_take ps k hlt
      have hn4 := Hno.out _ (List.getElem_mem hlt)
      have hdl : (catP (ps.drop k)).length ≤ (catP ps).length := by rw [catP_split ps k, List.length_append]; omega
      rw [← hLe] at hrd
      clear hcell hpx
      generalize ps[k]'hlt = p at hpa hct hn4 hct2
      obtain ⟨kk, pb, px, psx⟩ := p
      obtain ⟨vB, h0, h1, h2, h3, h4, h5⟩ := hpa
      have H5 : Hid (px < 2 ^ 64) := h5
      simp only at h0 h1 h2 h3 h4 hct hn4 hct2
      have hlk : (catP (ps.take (k + 1))).length = L + (enc kk px psx).length := by rw [hct2, List.length_append, ← hLe]
      have HM : Hid (∃ M, M = (catP (ps.take (k + 1))).length) := ⟨_, rfl⟩
      obtain ⟨M, hM⟩ := HM.out
      rw [← hM] at hce hlk
      rw [hct] at hrd hdl
      rw [List.length_append] at hdl
      obtain ⟨bo, bc, rfl, _⟩ := h4
      clear h5 hrd2 hct2 HM
      by_cases hin : M ≤ n
      · have hin' : (M : Int) ≤ (n : Int) := by omega
        have e1 : (enc kk px psx ++ catP (ps.drop (k + 1))).take (n - L) = enc kk px psx ++ (catP (ps.drop (k + 1))).take (n - M) := by
          rw [List.take_append, List.take_of_length_le (by omega)]
          congr 2
          omega
        rw [e1] at hrd
        have key := taken_ok w2.heap.size r kk (.slice bo pb.length bc) px psx _ _ _ _ wr hrd hewr H5 hn4 (by simp only [List.length_append, List.length_take]; omega)
        have HM2 : Hid (M = (catP (ps.take (k + 1))).length) := hM
        clear hct hn4 hdl hrd hewr e1 hM hlk hLe hLn hin
        go_wp2_with fail
        refine key.mono ?_
        rintro e w5 ⟨rfl, hrd5, hb5⟩
        have hb6 : Up w2 w5 := Below.trans hb (But.below hb5 hr2 hb.size)
        obtain ⟨be', oe', e5, hce5⟩ := Hex.out w5 hb6 k hlt
        obtain ⟨rfl, rfl⟩ : be = be' ∧ oe = oe' := by simpa using e5
        rw [← HM2.out] at hce5
        have hnb : (n : Int) ≤ 67109888 := by omega
        have hn0 : (0 : Int) ≤ (n : Int) := by omega
        have hM0 : (0 : Int) ≤ (M : Int) := by omega
        obtain ⟨D, hD⟩ : ∃ D : Int, (n : Int) - (M : Int) = D := ⟨_, rfl⟩
        have hD0 : 0 ≤ D := by omega
        have hD1 : D ≤ 67109888 := by omega
        have Hcl : Hid _ := hcl
        clear hcl
        clear key h0 h1 h2 h3 hb5 hce e5
        go_wp2_with fail
        refine (Err_any _ r _ _ _ hrd5).mono ?_
        rintro e w6 ⟨rfl, rfl⟩
        go_wp2
        go_roundw
        case rel => exact ⟨k + 1, by omega, by go_num, ⟨M, HM2.out, by omega, by rw [hD]⟩, by rw [← HM2.out]; exact hrd5, hb6⟩
        case measure => simp [intOf]; omega
      · have hin' : ¬ (M : Int) ≤ (n : Int) := by omega
        have e1 : (enc kk px psx ++ catP (ps.drop (k + 1))).take (n - L) = (enc kk px psx).take (n - L) := by
          rw [List.take_append_of_le_length (by omega)]
        rw [e1] at hrd
        have hj : n - L < (enc kk px psx).length := by omega
        have hlen2 : ((enc kk px psx).take (n - L)).length = n - L := by rw [List.length_take]; omega
        have key := taken_cut w2.heap.size r kk (.slice bo pb.length bc) px psx (n - L) hj _ _ _ wr hrd hewr H5 hn4 (by omega)
        have hLL : (((enc kk px psx).take (n - L)).length : Int) = (n : Int) - (L : Int) := by rw [hlen2]; omega
        generalize (enc kk px psx).take (n - L) = rest at key hLL hrd
        have HLL : Hid _ := hLL
        clear hct hn4 hdl e1 hM hlk hLe hin hj hlen2 hLL
        go_wp2_with fail
        refine key.mono ?_
        rintro e w5 ⟨⟨bb, rfl⟩, hrd5, hb5⟩
        have hb6 : Up w2 w5 := Below.trans hb (But.below hb5 hr2 hb.size)
        have hflt : Flt w2.heap.size r rest _ _ _ w w5 := ⟨hrd5, hewr.rdr hrd hb5, hup.trans hb6, Nat.le_trans hup.size hr2⟩
        have qS := eq_same (ad 0)
        have hc5 := hflt.cell
        have hd5 := hflt.drew
        clear key h0 h1 h2 h3 hb5 hce hrd hewr hrd5 Hex Hno he h hup hb hb6 hup23
        go_wp2_with fail
        go_region_with (first
          | (go_at_call 18; refine (flt_Err hd5).mono ?_; rintro e w6 ⟨rfl, rfl, hf6⟩)
          | (go_at_call 19; refine (flt_Left hd5 _ HLL.out).mono ?_; rintro e w7 ⟨rfl, rfl, hf7⟩))
        all_goals (
          clear hc5 hd5 hflt
          go_wp2_with fail)
        all_goals (have hd7 := hf7.drew)
        all_goals go_region_with (first
          | (go_at_call 21; refine (flt_U8 hd7).mono ?_; rintro e w8 ⟨rfl, hf8⟩)
          | (go_at_call 22; refine (flt_Text hf8).mono ?_; rintro e w9 ⟨rfl, hf9⟩; have hc9 := hf9.cell)
          | (go_at_call 19; refine (flt_Left hf9 _ HLL.out).mono ?_; rintro e w10 ⟨rfl, rfl, hf10⟩)
          | (go_at_call 20; refine (flt_End hf9).mono ?_; rintro e w11 ⟨rfl, rfl, hf11⟩))
        all_goals (go_wp2; go_ret; exact ⟨rfl, hf11.up⟩)
    · obtain rfl : k = ps.length := by omega
      exfalso
      rw [List.take_of_length_le (Nat.le_refl _)] at hLe
      omega
end Go.Proofs.YtdpohhbncpcidaaDoor
