/- The law PackBack returns true for every slice of Puts, and changes nothing that was there, where the package variables of errors hold their errors. -/
import Derived.Test.YtpjpjoefmnnpmaaDoorRow
import Derived.Test.YtpjpjoefmnnpmaaDoorTaken
set_option linter.unusedVariables false
namespace Go.Proofs.YtpjpjoefmnnpmaaDoor
open Go Go.RowKit

/-- The errors that the reader and the Puts may answer. -/
abbrev fourErrs : List Nat := [0, 1, 3, 2]

theorem cat_len (ps : List PutD) (hlen : ps.length ≤ 1024) (h : ∀ p ∈ ps, p.1 = 4 → (p.2.2.2.size : Int) ≤ 65535) : (catP ps).length ≤ 67109888 := by
  have : ∀ qs : List PutD, (∀ p ∈ qs, p.1 = 4 → (p.2.2.2.size : Int) ≤ 65535) → (catP qs).length ≤ qs.length * 65537 := by
    intro qs
    induction qs with
    | nil => intro _; simp [catP]
    | cons q r ih =>
      intro hq
      have h1 := ih (fun p hp => hq p (List.mem_cons_of_mem _ hp))
      have h2 := enc_len q.1 q.2.2.1 q.2.2.2 (hq q (List.mem_cons_self ..))
      have e : catP (q :: r) = enc q.1 q.2.2.1 q.2.2.2 ++ catP r := by simp [catP]
      rw [e, List.length_append, List.length_cons]; omega
  exact Nat.le_trans (this ps h) (Nat.le_trans (Nat.mul_le_mul_right 65537 hlen) (by decide))

set_option maxHeartbeats 1600000 in
theorem PackBack_any (v : Value) (ps : List PutD) (w : World) (txt : Nat → List UInt8) (ad : Nat → Addr) (hp : PutsIn w v ps) (hlen : ps.length ≤ 140737488351232) (hls : ∀ p ∈ ps, (p.2.2.2.size : Int) ≤ 1048576) (h : ErrSet fourErrs txt w ad) :
    Calls Tryd.prog 5 #[v] w fun e w' => e = .returned (.bool true) ∧ Up w w' := by
  have he := h.errs (by decide) (by decide) (by decide)
  have hL := (h 3 (by decide)).1
  have hp0 := hp
  obtain ⟨ao, cap, rfl, hpx⟩ := hp
  go_enter Tryd.func5, Tryd.ntmps5
  go_wp2_with fail
  refine (lives_any _ _ _ _ he).mono ?_
  rintro e w1 ⟨rfl, hu1⟩
  have hp1 : PutsIn w1 (.slice ao ps.length cap) ps := by
    obtain ⟨a', c', e1, hx'⟩ := hp0
    exact ⟨a', c', e1, fun hne => by obtain ⟨b, o, e2, hc⟩ := hx' hne; exact ⟨b, o, e2, fun i hi => (hc i hi).up hu1⟩⟩
  go_wp2_with fail
  refine (row_any _ ps _ _ hp1 hlen hls (hL.up hu1)).mono ?_
  rintro e w2 ⟨hu2, rfl | ⟨vb, ve, rfl, hsl, hends, hmany, hno⟩⟩
  · have hup := hu1.trans hu2
    clear hp1 hp0 hpx hls he hL h
    go_wp2
    go_ret
    exact ⟨rfl, hup⟩
  have hcl := cat_len ps hmany hno
  have hup := hu1.trans hu2
  have Hno : Hid _ := hno
  clear hp1 hp0 hls hL hu1 hu2 hends hno
  go_wp2_with fail
  refine (NewReader_any 0 vb (catP ps) _ hsl (by omega)).mono ?_
  rintro e w3 ⟨r, rfl, hr2, hrd2, hu3⟩
  have hup3 := hup.trans hu3
  have hr0 : w.heap.size ≤ r := Nat.le_trans hup.size hr2
  clear hr2 hu3 hsl hup
  generalize w2.heap.size = b1 at hrd2
  go_wp2
  go_loopw [7] (fun i wr => ∃ k : Nat, k ≤ ps.length ∧ i = .int .i64 k ∧ Rdr b1 wr r (catP (ps.drop k)) .nilIface ∧ Up w wr) (fun i _ => ps.length - (intOf i).toNat)
  case atStart => exact ⟨0, Nat.zero_le _, rfl, by simpa using hrd2, hup3⟩
  case round =>
    obtain ⟨k, hk, rfl, hrd, hb⟩ := hrel
    have hewr := he.up hb
    by_cases hlt : k < ps.length
    · obtain ⟨b, o, rfl, hcell⟩ := hpx (by rintro rfl; simp at hlt)
      have hpa := (hcell k hlt).up hb
      have hct := catP_drop ps k hlt
      have hn4 := Hno.out _ (List.getElem_mem hlt)
      have hdl : (catP (ps.drop k)).length ≤ (catP ps).length := by rw [catP_split ps k, List.length_append]; omega
      clear hcell hpx
      generalize ps[k]'hlt = p at hpa hct hn4
      obtain ⟨kk, pb, px, psx⟩ := p
      obtain ⟨vB, h0, h1, h2, h3, h4, h5⟩ := hpa
      have H5 : Hid (px < 2 ^ 64) := h5
      simp only at h0 h1 h2 h3 h4 hct hn4
      rw [hct] at hrd hdl
      have key := taken_ok b1 r kk vB px psx _ _ _ _ wr hrd hewr H5 hn4 (by omega)
      obtain ⟨bo, bc, rfl, _⟩ := h4
      clear hct hn4 hdl h5 hrd hrd2 hewr
      go_wp2_with fail
      refine key.mono ?_
      rintro e w5 ⟨rfl, hrd5, hb5⟩
      have hb6 : Up w w5 := Below.trans hb (But.below hb5 hr0 hb.size)
      clear key h0 h1 h2 h3 hb5
      go_wp2_with fail
      refine (Err_any _ r _ _ _ hrd5).mono ?_
      rintro e w6 ⟨rfl, rfl⟩
      go_wp2
      go_roundw
      case rel => exact ⟨k + 1, by omega, by go_num, hrd5, hb6⟩
      case measure => simp [intOf]; omega
    · obtain rfl : k = ps.length := by omega
      have hrd' : Rdr b1 wr r [] .nilIface := by
        rw [List.drop_of_length_le (Nat.le_refl _)] at hrd; exact hrd
      clear hpx hrd hrd2
      go_wp2_with fail
      refine (Left_any _ r _ _ _ hrd').mono ?_
      rintro e w6 ⟨rfl, rfl⟩
      go_wp2_with fail
      refine (End_any _ r _ _ _ _ hrd' (.inl rfl) hewr.form).mono ?_
      rintro e w7 ⟨rfl, rfl⟩
      have e0 : endF (ad 1) [] .nilIface = .nilIface := by simp [endF]
      rw [e0]
      go_wp2
      go_ret
      exact ⟨rfl, hb⟩
end Go.Proofs.YtpjpjoefmnnpmaaDoor
