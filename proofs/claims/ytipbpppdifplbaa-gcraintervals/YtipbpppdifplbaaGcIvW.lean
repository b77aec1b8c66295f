/- The law GcraIntervals returns true for every gap, slack and row of arrivals, and changes nothing that was there: the walk. -/
import Derived.Test.YtipbpppdifplbaaGcIv
set_option linter.unusedVariables false
namespace Go.Proofs.Ytipbpppdifplbaa
open Go Go.RowKit

/-- An arrival in its two cells; a row of them. -/
def CAt (w : World) (b o : Nat) (q : Nat × Nat) : Prop := w.cell? ⟨b, o, none⟩ = some (V q.1) ∧ w.cell? ⟨b, o + 1, none⟩ = some (V q.2)
def CsIn (w : World) (v : Value) (cs : List (Nat × Nat)) : Prop :=
  ∃ ao cap, v = .slice ao cs.length cap ∧ (cs ≠ [] → ∃ b o, ao = some ⟨b, o, none⟩ ∧ ∀ i (h : i < cs.length), CAt w b (o + i * 2) cs[i])
theorem CAt.up {w w' : World} {b o : Nat} {q : Nat × Nat} (h : CAt w b o q) (hu : Up w w') : CAt w' b o q := ⟨cell_up h.1 hu, cell_up h.2 hu⟩

set_option maxHeartbeats 6400000 in
set_option maxRecDepth 20000 in
theorem GcraIntervals_any (gap slack : Nat) (v : Value) (cs : List (Nat × Nat)) (w : World) (hg : N64 gap) (hs : N64 slack) (hq : CsIn w v cs) (hlen : (cs.length : Int) ≤ 9223372036854775807) (hok : ∀ q ∈ cs, N64 q.1 ∧ N64 q.2) :
    Calls Try.prog 9 #[V gap, V slack, v] w fun e w' => e = .returned (.bool true) ∧ Up w w' := by
  obtain ⟨ao, cap, rfl, hx⟩ := hq
  have HB : Hid (N64 gap ∧ N64 slack) := ⟨hg, hs⟩
  clear hg hs
  go_enter Try.func9, Try.ntmps9
  go_wp2_with fail
  refine (lives_any _).mono ?_
  rintro e w1 ⟨rfl, u1⟩
  have H1 : Hid (Iv w w1 gap (.slice none 0 0) (.slice none 0 0) [] [] 0 0 0) := Iv.empty u1 gap
  clear u1
  go_wp2
  go_loopg [7, 8, 9, 10, 11] cs.length (fun g a b t m i wr => ∃ (k tat now : Nat) (ts us : List Nat), k ≤ cs.length ∧ g = cs.length - k ∧ k ≤ 200 ∧ t = V tat ∧ m = V now ∧ i = .int .i64 k ∧ Hid (Iv w wr gap a b ts us k tat now))
  case atStart => exact ⟨0, 0, 0, [], [], by omega, rfl, by omega, rfl, rfl, rfl, H1.out⟩
  case round =>
    obtain ⟨k, tat, now, ts, us, hk, rfl, hk2, rfl, rfl, rfl, hI⟩ := hrel
    by_cases hlt : k < cs.length
    · by_cases h200 : (k : Int) < 200
      · obtain ⟨b, o, rfl, hcell⟩ := hx (by rintro rfl; simp at hlt)
        have hpa := (hcell k hlt).up hI.out.tw.upw
        have hpf := hok _ (List.getElem_mem hlt)
        have Hlt : Hid (k < cs.length ∧ k < 200) := ⟨hlt, by omega⟩
        generalize cs[k]'hlt = q at hpa hpf
        obtain ⟨c, n⟩ := q
        obtain ⟨c0, c1⟩ := hpa
        simp only at c0 c1 hpf
        have hnw : ∃ nw, N64 nw ∧ ((now < c ∧ c = nw) ∨ (¬ now < c ∧ now = nw)) := by
          by_cases h : now < c
          · exact ⟨c, hpf.1, Or.inl ⟨h, rfl⟩⟩
          · exact ⟨now, hI.out.nw, Or.inr ⟨h, rfl⟩⟩
        obtain ⟨nw, nN, hnw⟩ := hnw
        have hI1 : Hid (Iv w wr gap u7 u8 ts us k tat nw) := hI.out.time nw nN
        have k1 := Admit_any gap slack tat nw n HB.out.1 HB.out.2 (by have := hI.out.top; unfold N64; omega) nN hpf.2
        have k2 := fun W (h : Up wr W) => room_any gap slack nw n u7 u8 _ _ ts.length W HB.out.1 HB.out.2 nN hpf.2 (by have := hI.out.few; omega) (own_reads (hI.out.grow h).tw.rt) (by rw [← hI.out.len]; exact own_reads (hI.out.grow h).tw.ru) hI.out.all (by have := hI.out.run; have := hI.out.top; unfold runL at *; omega)
        rw [show gRunI gap (fun i => ts.getD i 0) (fun i => us.getD i 0) ts.length = tat from hI.out.run] at k2
        have Hn : Hid (N64 n) := hpf.2
        clear hcell hx hok H1 hpf hI nN
        by_cases hF : GFits gap slack tat nw n
        · rw [decide_eq_true hF] at k1
          rw [decide_eq_true hF] at k2
          have HF : Hid (GFits gap slack tat nw n) := hF
          obtain ⟨T1, hT1⟩ : ∃ T1, gTat gap slack tat nw n = T1 := ⟨_, rfl⟩
          rw [hT1] at k1 k2
          have HT1 : Hid (gTat gap slack tat nw n = T1) := hT1
          clear hF hT1
          rcases hnw with ⟨hnw, rfl⟩ | ⟨hnw, rfl⟩
          all_goals
            go_wp2_with fail
            refine (k1 _).mono ?_
            rintro e w2 ⟨rfl, u2⟩
            go_wp2_with fail
            refine (k2 _ u2).mono ?_
            rintro e w3 ⟨x, rfl, hx3, u3⟩
            have H3 : Hid (Iv w w3 gap u7 u8 ts us k tat _) := hI1.out.grow (u2.trans u3)
            obtain rfl : T1 = x := (hx3.out HF.out).symm
            clear k1 k2 u2 u3 hx3 hI1
            go_wp2_with (at_builtin; refine wpList_pushU _ rfl (.tmp 86) (.tmp 88) rfl w.heap.size u7 ts rfl rfl H3.out.tw.rt H3.out.tw.upw.size ?hl _ ?_)
            case hl => have := H3.out.few; omega
            intro vt' w4 ho hc
            have H4 : Hid (Tw w w4 vt' u8 _ us) := H3.out.tw.push ho hc
            clear ho hc
            go_wp2_with (at_builtin; refine wpList_pushU _ rfl (.tmp 90) (.tmp 92) rfl w.heap.size u8 us rfl rfl H4.out.ru H4.out.upw.size ?hl2 _ ?_)
            case hl2 => have := H3.out.few; have := H3.out.len; omega
            intro vu' w5 ho hc
            have H5 : Hid (Iv w w5 gap vt' vu' _ _ (k + 1) T1 _) := HT1.out ▸ H3.out.push Hn.out HF.out (H4.out.flip.push ho hc).flip
            clear ho hc H3 H4
            go_wp2
            go_roundg (cs.length - (k + 1))
            case measure => have := Hlt.out; omega
            case rel => exact ⟨k + 1, T1, _, _, _, Hlt.out.1, rfl, Hlt.out.2, rfl, rfl, by go_num, H5⟩
        · rw [decide_eq_false hF] at k1
          rw [show gTat gap slack tat nw n = tat from if_neg hF] at k1
          rw [decide_eq_false hF] at k2
          clear hF
          rcases hnw with ⟨hnw, rfl⟩ | ⟨hnw, rfl⟩
          all_goals
            go_wp2_with fail
            refine (k1 _).mono ?_
            rintro e w2 ⟨rfl, u2⟩
            go_wp2_with fail
            refine (k2 _ u2).mono ?_
            rintro e w3 ⟨x, rfl, hx3, u3⟩
            have H3 : Hid (Iv w w3 gap u7 u8 ts us (k + 1) tat _) := (hI1.out.grow (u2.trans u3)).next
            clear k1 k2 u2 u3 hx3 hI1
            go_wp2
            go_roundg (cs.length - (k + 1))
            case measure => have := Hlt.out; omega
            case rel => exact ⟨k + 1, tat, _, ts, us, Hlt.out.1, rfl, Hlt.out.2, rfl, rfl, by go_num, H3⟩
      · clear hx hok H1
        go_wp2
        go_ret
        exact ⟨rfl, hI.out.tw.upw⟩
    · obtain rfl : k = cs.length := by omega
      clear hx hlt hok H1
      go_wp2
      go_ret
      exact ⟨rfl, hI.out.tw.upw⟩
end Go.Proofs.Ytipbpppdifplbaa
