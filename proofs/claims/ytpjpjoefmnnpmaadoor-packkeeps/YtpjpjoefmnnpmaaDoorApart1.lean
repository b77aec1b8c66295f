/- The law apart: its first loop. -/
import Derived.Test.YtpjpjoefmnnpmaaDoorApart3
import Derived.Deep.RegionWith
import Derived.Deep.QuietTactic
import Derived.BigQuiet
set_option linter.unusedVariables false
namespace Go.Proofs.YtpjpjoefmnnpmaaDoor
open Go Go.RowKit

theorem OwnB.shape {w : World} {base n : Nat} {v : Value} {V : Nat → Value} (h : OwnB w base v n V) : ∃ ao cap, v = .slice ao n cap ∧ ∀ w', OwnB w' base v n V → ∀ i, i < n → ∃ g, ao = some ⟨g, 0, none⟩ ∧ w'.cell? ⟨g, i, none⟩ = some (V i) := by
  have hs : ∃ ao cap, v = .slice ao n cap := by
    obtain ⟨hl, ⟨rfl, rfl⟩ | ⟨g, cap, cur, rfl, _⟩⟩ := h
    · exact ⟨none, 0, rfl⟩
    · exact ⟨_, cap, rfl⟩
  obtain ⟨ao, cap, rfl⟩ := hs
  refine ⟨ao, cap, rfl, fun w' h' i hi => ?_⟩
  obtain ⟨g, c, e, hc⟩ := h'.cell i hi
  simp only [Value.slice.injEq] at e
  exact ⟨g, e.1, hc⟩
theorem Own.shape {w : World} {base : Nat} {v : Value} {bs : List UInt8} (h : Own w 5 base v bs) : ∃ ao cap, v = .slice ao bs.length cap ∧ (bs ≠ [] → ∃ g, ao = some ⟨g, 0, none⟩ ∧ v.ownBlock = some g ∧ base ≤ g) := by
  obtain ⟨hl, ⟨rfl, h0⟩ | ⟨g, cap, cur, rfl, hb, _⟩⟩ := h
  · exact ⟨none, 0, by rw [h0], fun hn => absurd (List.eq_nil_of_length_eq_zero h0) hn⟩
  · exact ⟨_, cap, rfl, fun _ => ⟨g, rfl, rfl, hb⟩⟩

theorem Own.not_frozen {w : World} {base g n cap t : Nat} {bs : List UInt8} (h : Own w 5 base (.slice (some ⟨g, 0, none⟩) n cap) bs) : w.frozen? ⟨g, t, none⟩ = false := by
  obtain ⟨hl, ⟨hv, _⟩ | ⟨g', cap', cur, hv, hb, hg, _⟩⟩ := h
  · cases hv
  · cases hv
    simp [World.frozen?, hg]
theorem lists_set {w : World} {base n g m cap k t : Nat} {V : Nat → Value} {L : Nat → List UInt8} (hd : Dis n V) (hk : k < n) (hl : Lists w base n V L) (hv : V k = .slice (some ⟨g, 0, none⟩) m cap) (ht : t < (L k).length) (c : UInt8) :
    Lists (w.setCell ⟨g, t, none⟩ (B c)) base n V (fun j => if j = k then (L k).set t c else L j) := by
  intro j hj
  by_cases e : j = k
  · subst e
    have h := hl j hj
    simp only [if_true]
    rw [hv] at h ⊢
    exact h.set t ht c
  · simp only [if_neg e]
    exact ownsRow_but (hl j hj) (But.setCell w g t (B c)) (fun h => e (hd j k g hj hk h (by rw [hv]; rfl)))
theorem ownB_set {w : World} {base n g m cap k t : Nat} {vb : Value} {V : Nat → Value} {L : Nat → List UInt8} (hb : OwnB w base vb n V) (hk : k < n) (hl : Lists w base n V L) (hv : V k = .slice (some ⟨g, 0, none⟩) m cap) (u : Value) :
    OwnB (w.setCell ⟨g, t, none⟩ u) base vb n V := by
  refine ownsRow_but hb (But.setCell w g t u) (fun h => ?_)
  have hlk := hl k hk
  exact rows_apart hb hlk h (by rw [hv]; rfl)

set_option maxRecDepth 20000 in
set_option maxHeartbeats 3200000 in
theorem apart_any (vb : Value) (n : Nat) (V : Nat → Value) (L : Nat → List UInt8) (w : World) (base : Nat) (hb : OwnB w base vb n V) (hl : Lists w base n V L) (hd : Dis n V) (hn : (n : Int) ≤ 192) (hL : ∀ j, j < n → ((L j).length : Int) ≤ 1000000) (hbase : base ≤ w.heap.size) :
    Calls Tryd.prog 31 #[vb] w fun e w' => e = .returned (.bool true) ∧ Below base w w' := by
  have hb0 := hb
  obtain ⟨ao, cap, rfl, hcells⟩ := hb.shape
  have Hcells : Hid _ := hcells
  clear hcells
  go_enter Tryd.func31, Tryd.ntmps31
  go_wp2
  go_loopw [3] (fun i wr => ∃ k : Nat, k ≤ n ∧ i = .int .i64 k ∧ ∃ L' : Nat → List UInt8, Hid ((∀ j, j < n → (L' j).length = (L j).length) ∧ (∀ j, j < k → L' j = marks j (L j).length) ∧ Lists wr base n V L') ∧ OwnB wr base (.slice ao n cap) n V ∧ Below base w wr) (fun i _ => n - (intOf i).toNat)
  case atStart => exact ⟨0, Nat.zero_le _, rfl, L, ⟨fun _ _ => rfl, fun j hj => by omega, hl⟩, hb0, Below.refl _ _⟩
  case round =>
    obtain ⟨k, hk, rfl, L', hL', hbk, hup⟩ := hrel
    by_cases hlt : k < n
    · obtain ⟨gb, rfl, hc⟩ := Hcells.out wr hbk k hlt
      obtain ⟨hlen, hdone, hlists⟩ := hL'.out
      obtain ⟨al, cl, hVk, hgl⟩ := (hlists k hlt).shape
      rw [hlen k hlt] at hVk
      have hlk := hL k hlt
      obtain ⟨m, hm⟩ : ∃ m, m = (L k).length := ⟨_, rfl⟩
      rw [← hm] at hVk hlk
      have Hm : Hid (m = (L k).length) := hm
      have HVk : Hid (V k = .slice al m cl) := hVk
      have Hdone : Hid (∀ j, j < k → L' j = marks j (L j).length) := hdone
      have Hlen : Hid (∀ j, j < n → (L' j).length = (L j).length) := hlen
      have HL : Hid (∀ j, j < n → ((L j).length : Int) ≤ 1000000) := hL
      rw [hVk] at hc
      clear hm hVk hdone hlen hgl
      go_wp2
      go_loopw [4] (fun j wr => ∃ t : Nat, t ≤ m ∧ j = .int .i64 t ∧ ∃ L' : Nat → List UInt8, Hid ((∀ j, j < n → (L' j).length = (L j).length) ∧ (∀ j, j < k → L' j = marks j (L j).length) ∧ (∀ s (hs : s < (L' k).length), s < t → (L' k)[s] = markB k s) ∧ Lists wr base n V L') ∧ OwnB wr base (.slice (some ⟨gb, 0, none⟩) n cap) n V ∧ Below base w wr) (fun j _ => m - (intOf j).toNat)
      case atStart => exact ⟨0, Nat.zero_le _, rfl, L', ⟨Hlen.out, Hdone.out, fun s _ h => by omega, hlists⟩, hbk, hup⟩
      case round =>
        obtain ⟨t, ht, rfl, L2, hL2, hbk2, hup2⟩ := hrel
        obtain ⟨gb', e0, hc2⟩ := Hcells.out wr hbk2 k hlt
        obtain rfl : gb = gb' := by simpa using e0
        rw [HVk.out] at hc2
        clear e0 hc
        by_cases htl : t < m
        · obtain ⟨hlen2, hdone2, hmk2, hlists2⟩ := hL2.out
          have hownk := hlists2 k hlt
          obtain ⟨al', cl', e1, hgl2⟩ := hownk.shape
          rw [HVk.out] at e1 hownk
          obtain ⟨gl, e2, hob, hbg⟩ := hgl2 (by intro e; have := hlen2 k hlt; rw [e] at this; simp at this; have := Hm.out; omega)
          simp only [Value.slice.injEq] at e1
          obtain ⟨rfl, em, rfl⟩ := e1
          subst e2
          have Hem : Hid (m = (L2 k).length) := em
          clear em
          have Hfacts : Hid ((∀ j, j < n → (L2 j).length = (L j).length) ∧ (∀ j, j < k → L2 j = marks j (L j).length) ∧ (∀ s (hs : s < (L2 k).length), s < t → (L2 k)[s] = markB k s) ∧ Lists wr base n V L2) := hL2
          clear hlen2 hdone2 hmk2 hlists2 hL2 hob hgl2
          have hst : wr.cell? ⟨gl, t, none⟩ = some (B ((L2 k)[t]'(Hem.out ▸ htl))) := by
            have htl : t < (L2 k).length := Hem.out ▸ htl
            obtain ⟨ao', cap', e3, _, _, h3⟩ := hownk.sl
            obtain ⟨b3, o3, e4, _, ha⟩ := h3 (by intro e; rw [e] at htl; simp at htl)
            simp only [Value.slice.injEq] at e3
            rw [← e3.1] at e4
            simp only [Option.some.injEq, Addr.mk.injEq, and_true] at e4
            obtain ⟨rfl, rfl⟩ := e4
            simpa using ha t htl
          generalize (L2 k)[t]'(Hem.out ▸ htl) = old at hst
          have hmk := fun u => mark_any k t (by omega) (by omega) u
          have Hmk : Hid _ := hmk
          clear hmk
          go_wp2_with fail
          have hfz : wr.drew.frozen? ⟨gl, t, none⟩ = false := hownk.not_frozen (w := wr)
          have hfin : Hid (∃ L3 : Nat → List UInt8, Hid ((∀ j, j < n → (L3 j).length = (L j).length) ∧ (∀ j, j < k → L3 j = marks j (L j).length) ∧ (∀ s (hs : s < (L3 k).length), s < t + 1 → (L3 k)[s] = markB k s) ∧ Lists (wr.drew.setCell ⟨gl, t, none⟩ (B (markB k t))) base n V L3) ∧ OwnB (wr.drew.setCell ⟨gl, t, none⟩ (B (markB k t))) base (.slice (some ⟨gb, 0, none⟩) n cap) n V ∧ Below base w (wr.drew.setCell ⟨gl, t, none⟩ (B (markB k t)))) := by
            obtain ⟨q1, q2, q3, q4⟩ := Hfacts.out
            have q4' : Lists wr.drew base n V L2 := q4
            have htl2 : t < (L2 k).length := Hem.out ▸ htl
            refine ⟨_, ⟨?_, ?_, ?_, lists_set hd hlt q4' HVk.out htl2 (markB k t)⟩, ownB_set hbk2 hlt q4' HVk.out _, ?_⟩
            · intro j hj
              by_cases e : j = k
              · subst e; simp; exact q1 j hj
              · simp only [if_neg e]; exact q1 j hj
            · intro j hj
              simp only [if_neg (show ¬ j = k by omega)]
              exact q2 j hj
            · simp only [if_true]
              intro s hs hst
              rw [List.getElem_set]
              split
              · rename_i e; rw [e]
              · exact q3 s (by simpa using hs) (by omega)
            · exact Below.setCell hup2.drew hbg _
          have htI : (t : Int) < (m : Int) := by omega
          have hkI : (k : Int) < (n : Int) := by omega
          go_region_with (first
            | (go_at_call 54; refine (Hmk.out _).mono ?_; rintro e w6 ⟨rfl, rfl⟩; have hst6 : wr.drew.cell? ⟨gl, t, none⟩ = some (B old) := hst; have hz : wr.drew.frozen? ⟨gl, t, none⟩ = false := hfz))
          all_goals (
            go_wp2
            go_roundw
            case rel =>
              obtain ⟨L3, q1, q2, q3⟩ := hfin.out
              exact ⟨t + 1, by omega, by go_num, L3, q1, q2, q3⟩
            case measure => simp [intOf]; omega)
        · obtain rfl : t = m := by omega
          have hfin : Hid (∃ L3 : Nat → List UInt8, Hid ((∀ j, j < n → (L3 j).length = (L j).length) ∧ (∀ j, j < k + 1 → L3 j = marks j (L j).length) ∧ Lists wr base n V L3)) := by
            obtain ⟨q1, q2, q3, q4⟩ := hL2.out
            refine ⟨L2, q1, ?_, q4⟩
            intro j hj
            by_cases e : j = k
            · subst e
              refine marks_eq (q1 j hlt) (fun s hs => q3 s hs ?_)
              rw [q1 j hlt] at hs
              have := Hm.out
              omega
            · exact q2 j (by omega)
          clear hL2
          go_wp2
          go_roundw
          case rel =>
            obtain ⟨L3, q⟩ := hfin.out
            exact ⟨k + 1, by omega, by go_num, L3, q, hbk2, hup2⟩
          case measure => simp [intOf]; omega
    · obtain rfl : n = k := by omega
      obtain ⟨hlen, hdone, hlists⟩ := hL'.out
      obtain ⟨B0, hB0⟩ : ∃ B0, B0 = wr.heap.size := ⟨_, rfl⟩
      have hM : Lists wr base n V (fun j => marks j (L j).length) := fun j hj => by
        have := hlists j hj
        rw [hdone j hj] at this
        exact this
      have Vlow : Hid (∀ j, j < n → ∀ g, (V j).ownBlock = some g → g < B0) := fun j hj g hg => hB0 ▸ (World.ownsRow.lt (hM j hj) g hg).2
      have Blow : Hid (∀ g, (Value.slice ao n cap).ownBlock = some g → g < B0) := fun g hg => hB0 ▸ (World.ownsRow.lt hbk g hg).2
      have start : Hid (Grew w base B0 n 0 (.slice ao n cap) (.slice none 0 0) V (fun _ => .slice none 0 0) (fun j => (L j).length) wr) :=
        ⟨World.ownsRow_nil wr B0 _ 1, hbk, fun j hj g c e => (by have h := hM j hj; rw [e] at h; exact h.at), fun j hj => (by omega), fun j hj => (by omega), fun i j g hi hj _ _ => (by omega), fun j _ hj => hM j hj, hup, (by rw [hB0]; exact Nat.le_refl _), (by rw [hB0]; exact Nat.le_trans hbase hup.size)⟩
      have Hd : Hid (Dis n V) := hd
      have HL : Hid (∀ j, j < n → ((L j).length : Int) ≤ 1000000) := hL
      have start2 : Hid (∃ w1 : World, ∀ j, j < n → Own w1 5 base (V j) (marks j (L j).length)) := ⟨wr, hM⟩
      clear hlen hdone hlists hM hL' hb0 hl hd hB0 hL hbk hup
      go_wp2
      go_loopw [5, 6] (fun vg i wr => ∃ k : Nat, k ≤ n ∧ i = .int .i64 k ∧ ∃ G : Nat → Value, Hid (Grew w base B0 n k (.slice ao n cap) vg V G (fun j => (L j).length) wr)) (fun _ i _ => n - (intOf i).toNat)
      case atStart => exact ⟨0, Nat.zero_le _, rfl, _, start⟩
      case round =>
        clear start
        obtain ⟨k, hk, rfl, G, hG⟩ := hrel
        by_cases hlt : k < n
        · obtain ⟨gb, rfl, hc⟩ := Hcells.out wr hG.out.book k hlt
          have htwo : Hid (Two w base B0 wr.heap.size n k (.slice (some ⟨gb, 0, none⟩) n cap) u5 (V k) V G (fun j => (L j).length) (L k).length wr) := hG.out.start hlt
          obtain ⟨al, cl, hVk, _⟩ := htwo.out.lown.shape
          rw [marks_length] at hVk
          have hlk := HL.out k hlt
          obtain ⟨m, hm⟩ : ∃ m, m = (L k).length := ⟨_, rfl⟩
          rw [← hm] at hVk hlk htwo
          have Hm : Hid (m = (L k).length) := hm
          rw [hVk] at hc htwo
          obtain ⟨Bi, hBi⟩ : ∃ Bi, Bi = wr.heap.size := ⟨_, rfl⟩
          rw [← hBi] at htwo
          clear hm hVk hG hBi
          go_wp2
          go_loopw [7, 8] (fun l j wr => ∃ t : Nat, t ≤ 16 ∧ j = .int .i64 t ∧ Hid (Two w base B0 Bi n k (.slice (some ⟨gb, 0, none⟩) n cap) u5 l V G (fun j => (L j).length) (m + t) wr)) (fun _ j _ => 16 - (intOf j).toNat)
          case atStart => exact ⟨0, Nat.zero_le _, rfl, htwo⟩
          case round =>
            clear htwo hc
            obtain ⟨t, ht, rfl, ht2⟩ := hrel
            by_cases htl : (t : Int) < 16
            · obtain ⟨p, hp⟩ : ∃ p, p = m + t := ⟨_, rfl⟩
              rw [← hp] at ht2
              have hown := ht2.out.lown
              obtain ⟨al2, cl2, hl2, _⟩ := hown.shape
              rw [marks_length] at hl2
              subst hl2
              have hpI : (p : Int) ≤ 1000016 := by omega
              have hbw : base ≤ wr.heap.size := Nat.le_trans ht2.out.hbase (Nat.le_trans ht2.out.hB0 ht2.out.hBi)
              have Hp : Hid (p = m + t) := hp
              clear hp
              go_wp2_with fail
              refine (mark_any k p (by omega) (by omega) _).mono ?_
              rintro e w6 ⟨rfl, e6⟩
              subst e6
              go_wp2_with (at_builtin; refine wpList_pushX _ rfl (.tmp 49) (.tmp 54) rfl base _ (marks k p) rfl _ rfl hown ?hb ?hl (markB k p) rfl ?_)
              case hb => exact hbw
              case hl => rw [marks_length]; omega
              intro v' w' ho hpush
              rw [← marks_succ] at ho hpush
              rw [marks_length k p] at hpush
              have hpush2 : (Own w' 5 w6.heap.size v' (marks k (p + 1)) ∧ Up w6 w') ∨ (∃ g cap, Value.slice al2 p cl2 = .slice (some ⟨g, 0, none⟩) p cap ∧ v' = .slice (some ⟨g, 0, none⟩) (p + 1) cap ∧ But g w6 w') := hpush.imp id (fun ⟨g, cap, ⟨e1, _, e2⟩, h3, h4⟩ => ⟨g, cap, by rw [e1, e2], h3, h4⟩)
              have hnext : Hid (Two w base B0 Bi n k (.slice (some ⟨gb, 0, none⟩) n cap) u5 v' V G (fun j => (L j).length) (m + (t + 1)) w') := by
                have := Two.step ht2.out Hd.out hlt Vlow.out (by have := Hm.out; have := Hp.out; omega) ho hpush2
                rw [Hp.out] at this
                exact this
              clear ho hpush hpush2 ht2 hown
              go_wp2
              go_roundw
              case rel => exact ⟨t + 1, by omega, by go_num, hnext⟩
              case measure => simp [intOf]; omega
            · obtain rfl : t = 16 := by omega
              have hB := ht2.out.grown
              obtain ⟨al2, cl2, hl2, _⟩ := ht2.out.lown.shape
              subst hl2
              have hbw : B0 ≤ wr.heap.size := Nat.le_trans ht2.out.hB0 ht2.out.hBi
              have Hb0 : base ≤ B0 := ht2.out.hbase
              have hup2 := ht2.out.up
              go_wp2_with (at_builtin; refine wpList_pushB _ rfl (.tmp 56) (.tmp 58) rfl B0 _ k G rfl _ rfl rfl hB ?hb ?hl ?_)
              case hl => omega
              intro v' w' ho hbl hgr
              have hm' := Hm.out
              subst hm'
              have hnext : Hid (∃ G' : Nat → Value, Hid (Grew w base B0 n (k + 1) (.slice (some ⟨gb, 0, none⟩) n cap) v' V G' (fun j => (L j).length) w')) :=
                ⟨_, Two.next ht2.out Hd.out hlt Vlow.out Blow.out ho hgr (Below.trans hup2 (hbl.mono Hb0))⟩
              clear ho hbl hgr hB ht2 hup2
              go_wp2
              go_roundw
              case rel =>
                obtain ⟨G', h'⟩ := hnext.out
                exact ⟨k + 1, by omega, by go_num, G', h'⟩
              case measure => simp [intOf]; omega
        · obtain rfl : n = k := by omega
          have HVs : Hid (∀ j, j < n → ∃ al cl, V j = .slice al (L j).length cl ∧ ((L j).length ≠ 0 → ∃ g, al = some ⟨g, 0, none⟩)) := by
            intro j hj
            obtain ⟨al, cl, e, hg⟩ := (start2.out.choose_spec j hj).shape
            rw [marks_length] at e
            refine ⟨al, cl, e, fun h0 => ?_⟩
            obtain ⟨g, e1, _⟩ := hg (by intro e2; have := marks_length j (L j).length; rw [e2] at this; simp at this; omega)
            exact ⟨g, e1⟩
          obtain ⟨ag, cg, e5, hgc⟩ := hG.out.grown.shape
          subst e5
          have Hgc : Hid _ := hgc
          clear hgc start2
          go_wp2
          go_loopw [9] (fun i wr => ∃ k : Nat, k ≤ n ∧ i = .int .i64 k ∧ Hid (Grew w base B0 n n (.slice ao n cap) (.slice ag n cg) V G (fun j => (L j).length) wr)) (fun i _ => n - (intOf i).toNat)
          case atStart => exact ⟨0, Nat.zero_le _, rfl, hG⟩
          case round =>
            clear hG
            obtain ⟨k, hk, rfl, hG⟩ := hrel
            by_cases hlt : k < n
            · obtain ⟨gg, rfl, hcg⟩ := Hgc.out wr hG.out.grown k hlt
              obtain ⟨gb, rfl, hcb⟩ := Hcells.out wr hG.out.book k hlt
              obtain ⟨al, cl, hVk, hal⟩ := HVs.out k hlt
              obtain ⟨bl, dl, hGk, hbl⟩ := (hG.out.done k hlt).shape
              rw [marks_length] at hGk
              have hlk := HL.out k hlt
              obtain ⟨m, hm⟩ : ∃ m, m = (L k).length := ⟨_, rfl⟩
              rw [← hm] at hVk hlk hGk hal
              have Hm : Hid (m = (L k).length) := hm
              obtain ⟨gl, rfl, _, _⟩ := hbl (by intro e2; have := marks_length k ((L k).length + 16); rw [e2] at this; simp at this)
              have HVk : Hid (V k = .slice al m cl) := hVk
              have HGk : Hid (G k = .slice (some ⟨gl, 0, none⟩) (m + 16) dl) := hGk
              obtain ⟨M, hM⟩ : ∃ M, M = m + 16 := ⟨_, rfl⟩
              rw [← hM] at hGk
              have HM : Hid (M = m + 16) := hM
              have hMI : (M : Int) ≤ 1000016 := by omega
              rw [hVk] at hcb
              rw [hGk] at hcg
              clear hm hVk hGk hM
              go_wp2
              go_loopw [10] (fun j wr => ∃ t : Nat, t ≤ M ∧ j = .int .i64 t ∧ Hid (Grew w base B0 n n (.slice (some ⟨gb, 0, none⟩) n cap) (.slice (some ⟨gg, 0, none⟩) n cg) V G (fun j => (L j).length) wr)) (fun j _ => M - (intOf j).toNat)
              case atStart => exact ⟨0, Nat.zero_le _, rfl, hG⟩
              case round =>
                clear hG hcg hcb
                obtain ⟨t, ht, rfl, hG⟩ := hrel
                obtain ⟨gg', e1, hcg⟩ := Hgc.out wr hG.out.grown k hlt
                obtain ⟨gb', e2, hcb⟩ := Hcells.out wr hG.out.book k hlt
                obtain rfl : gg = gg' := by simpa using e1
                obtain rfl : gb = gb' := by simpa using e2
                rw [HVk.out] at hcb
                rw [HGk.out, ← HM.out] at hcg
                clear e1 e2
                by_cases htM : t < M
                · have hx : wr.cell? ⟨gl, t, none⟩ = some (B (markB k t)) := by
                    have h1 := hG.out.done k hlt
                    rw [HGk.out] at h1
                    have h2 := h1.at t (by rw [marks_length]; have := Hm.out; have := HM.out; omega)
                    rw [marks_get] at h2
                    simpa using h2
                  have Hup : Hid (∀ q, Grew w base B0 n n (.slice (some ⟨gb, 0, none⟩) n cap) (.slice (some ⟨gg, 0, none⟩) n cg) V G (fun j => (L j).length) (wr.drewN q)) := fun q => hG.out.kept (below_drewN (Up.refl wr) q)
                  have Hmk : Hid (∀ u, Calls Tryd.prog 54 #[.int .i64 (k : Int), .int .i64 (t : Int)] u fun e w' => e = .returned (B (markB k t)) ∧ w' = u) := fun u => mark_any k t (by omega) (by have := HM.out; omega) u
                  by_cases htm : t < m
                  · obtain ⟨g2, rfl⟩ := hal (by omega)
                    have hy : wr.cell? ⟨g2, t, none⟩ = some (B (markB k t)) := by
                      have h1 := hG.out.reads k hlt g2 cl (by rw [HVk.out, Hm.out])
                      have h2 := h1 t (by rw [marks_length]; have := Hm.out; show t < (L k).length; omega)
                      rw [marks_get] at h2
                      simpa using h2
                    clear hG
                    go_wp2_with fail
                    go_quiet ((go_at_call 54; exact Calls.quiet_of_same (Hmk.out _)))
                    go_wp2
                    go_roundw
                    case rel => exact ⟨t + 1, by omega, by go_num, Hup.out _⟩
                    case measure => simp [intOf]; omega
                  · clear hG hal
                    go_wp2_with fail
                    go_quiet ((go_at_call 54; exact Calls.quiet_of_same (Hmk.out _)))
                    go_wp2
                    go_roundw
                    case rel => exact ⟨t + 1, by omega, by go_num, Hup.out _⟩
                    case measure => simp [intOf]; omega
                · clear hcb
                  go_wp2
                  go_roundw
                  case rel => exact ⟨k + 1, by omega, by go_num, hG⟩
                  case measure => simp [intOf]; omega
            · have hfin := hG.out.up
              clear hG
              go_wp2
              go_ret
              exact ⟨rfl, hfin⟩
end Go.Proofs.YtpjpjoefmnnpmaaDoor
