/- Merged: RcAllW. -/
import Derived.Test.YtcllenlpoknakaaDoorMr38
import Derived.Test.YtcllenlpoknakaaDoorMr29
set_option linter.unusedVariables false
set_option linter.unusedSimpArgs false
namespace Go.Proofs.YtcllenlpoknakaaDoor
open Go Go.RowKit

/-- One call. -/
structure OpRd where
  q : Int
  r : RecV
  b : List UInt8
structure OpRd.Fits (o : OpRd) : Prop where
  fit : Fit64 o.r
  key : (o.r.key.length : Int) ≤ 140737488355328
  b : (o.b.length : Int) ≤ 140737488351232
def OpRAt (w : World) (b o : Nat) (p : OpRd) : Prop :=
  ∃ vB, (w.cell? ⟨b, o, none⟩ = some (.int .i64 p.q) ∧ w.cell? ⟨b, o + 1, none⟩ = some (.int .i64 p.r.kind) ∧ w.cell? ⟨b, o + 2, none⟩ = some (V p.r.floor) ∧ w.cell? ⟨b, o + 3, none⟩ = some (.string ⟨p.r.key.toArray⟩) ∧ w.cell? ⟨b, o + 4, none⟩ = some (.int .i64 p.r.pk) ∧ w.cell? ⟨b, o + 5, none⟩ = some (V p.r.gap) ∧ w.cell? ⟨b, o + 6, none⟩ = some (V p.r.slack) ∧ w.cell? ⟨b, o + 7, none⟩ = some (V p.r.limit) ∧ w.cell? ⟨b, o + 8, none⟩ = some (V p.r.span) ∧ w.cell? ⟨b, o + 9, none⟩ = some (V p.r.tat) ∧ w.cell? ⟨b, o + 10, none⟩ = some (V p.r.idx) ∧ w.cell? ⟨b, o + 11, none⟩ = some (V p.r.cnt) ∧ w.cell? ⟨b, o + 12, none⟩ = some vB) ∧ Sl 0 w vB p.b
def OpsRIn (w : World) (v : Value) (ps : List OpRd) : Prop :=
  ∃ ao cap, v = .slice ao ps.length cap ∧ (ps ≠ [] → ∃ b o, ao = some ⟨b, o, none⟩ ∧ ∀ i (h : i < ps.length), OpRAt w b (o + i * 13) ps[i])
theorem OpRAt.up {w w' : World} {b o : Nat} {p : OpRd} (h : OpRAt w b o p) (hu : Up w w') : OpRAt w' b o p := by
  obtain ⟨vB, ⟨h0, h1, h2, h3, h4, h5, h6, h7, h8, h9, h10, h11, h12⟩, hs⟩ := h
  have hb : b < w.heap.size := World.block_lt_of_cell? w _ h0
  have k : ∀ j v, w.cell? ⟨b, j, none⟩ = some v → w'.cell? ⟨b, j, none⟩ = some v := fun j v h => (hu.cell (p := ⟨b, j, none⟩) hb).trans h
  exact ⟨vB, ⟨k _ _ h0, k _ _ h1, k _ _ h2, k _ _ h3, k _ _ h4, k _ _ h5, k _ _ h6, k _ _ h7, k _ _ h8, k _ _ h9, k _ _ h10, k _ _ h11, k _ _ h12⟩, hs.up hu⟩

theorem encB_le (r : RecV) : (encB r).length ≤ 99 := by
  unfold encB
  split
  · rename_i hv
    exact (encR_length hv).2
  · simp
theorem qplays_any (p : OpRd) (vB : Value) (w : World) (ad : Nat → Addr) (hk : RKnA w ad) (hB : Sl 0 w vB p.b) (hf : p.Fits) :
    Calls Tryd.prog 11 #[OpR p.q p.r.kind p.r.floor ⟨p.r.key.toArray⟩ p.r.pk p.r.gap p.r.slack p.r.limit p.r.span p.r.tat p.r.idx p.r.cnt vB] w fun e w' => e = .returned (.bool true) ∧ Up w w' := by
  have sB : ∃ a n c, vB = .slice a n c := by obtain ⟨a, c, e, _⟩ := hB; exact ⟨a, _, c, e⟩
  have hlb : p.b.length ≤ 140737488351232 := by have := hf.b; omega
  by_cases h1 : p.q = 1
  · rw [h1]
    exact qplay1 _ _ _ _ _ _ _ _ _ _ _ vB w sB _ (RValid_any p.r) (qValid_any p.r)
  by_cases h2 : p.q = 2
  · rw [h2]
    exact qplay2 _ _ _ _ _ _ _ _ _ _ _ vB w ad hk sB _ _ (encB p.r) (encB_le p.r) (fun w hk => REncode_any p.r w _ (rkn_all hk).gA hf.fit) (fun w => qEncode_any p.r w hf.fit) (fun w hk => qIs_enc p.r w ad hk)
  by_cases h3 : p.q = 3
  · rw [h3]
    cases hd : decR p.b with
    | error er =>
      cases er with
      | short =>
        refine qplay3_short _ _ _ _ _ _ _ _ _ _ _ vB p.b w ad hk hB hlb (fun v w hk hs => ?_) (fun v w hs => ?_)
        · have := RDecode_any 0 v p.b w _ _ hs hlb (rkn_all hk).gS (rkn_all hk).gF
          rw [hd] at this
          exact this
        · have := qDecode_any 0 v p.b w hs hf.b
          rw [hd] at this
          exact this
      | form =>
        refine qplay3_form _ _ _ _ _ _ _ _ _ _ _ vB p.b w ad hk hB hlb (fun v w hk hs => ?_) (fun v w hs => ?_)
        · have := RDecode_any 0 v p.b w _ _ hs hlb (rkn_all hk).gS (rkn_all hk).gF
          rw [hd] at this
          exact this
        · have := qDecode_any 0 v p.b w hs hf.b
          rw [hd] at this
          exact this
    | ok r =>
      refine qplay3_ok _ _ _ _ _ _ _ _ _ _ _ vB p.b w ad hk hB hlb r.kind r.floor ⟨r.key.toArray⟩ r.pk r.gap r.slack r.limit r.span r.tat r.idx r.cnt (fun v w hk hs => ?_) (fun v w hs => ?_)
      · have := RDecode_any 0 v p.b w _ _ hs hlb (rkn_all hk).gS (rkn_all hk).gF
        rw [hd] at this
        exact this
      · have := qDecode_any 0 v p.b w hs hf.b
        rw [hd] at this
        exact this
  · exact qplay0 _ _ _ _ _ _ _ _ _ _ _ _ vB w sB h1 h2 h3

/-- It answers a bool. -/
def SomeB (e : Ending) : Prop := ∃ r, e = .returned (.bool r)
set_option maxRecDepth 20000 in
set_option maxHeartbeats 3200000 in
theorem qmuch_any (v : Value) (ps : List OpRd) (w : World) (hp : OpsRIn w v ps) (hlen : (ps.length : Int) ≤ 140737488351232) (hf : ∀ p ∈ ps, p.Fits) :
    Calls Tryd.prog 10 #[v] w fun e w' => SomeB e ∧ Up w w' := by
  obtain ⟨ao, cap, rfl, hpx⟩ := hp
  have HF : Hid (∀ p ∈ ps, p.Fits) := hf
  clear hf
  obtain ⟨N, hN⟩ : ∃ N, ps.length = N := ⟨_, rfl⟩
  have HN : Hid (ps.length = N) := hN
  rw [hN] at hlen ⊢
  clear hN
  go_enter Tryd.func10, Tryd.ntmps10
  go_wp2
  go_loopg [3, 4] N (fun g y i wr => ∃ k n : Nat, k ≤ N ∧ g = N - k ∧ i = .int .i64 k ∧ y = .int .i64 (n : Int) ∧ (n : Int) ≤ 562949953421312 ∧ Hid (Up w wr))
  case atStart => exact ⟨0, 0, by omega, rfl, rfl, rfl, by omega, Up.refl w⟩
  case round =>
    obtain ⟨k, n, hk, rfl, rfl, rfl, hn1, HU⟩ := hrel
    have hn0 : (0 : Int) ≤ (n : Int) := by omega
    by_cases hn : (n : Int) ≤ 16777216
    · by_cases hlt : k < N
      · have Hlt : Hid (k < N) := hlt
        have hlt' : k < ps.length := by rw [HN.out]; exact hlt
        obtain ⟨bb, o, rfl, hcell⟩ := hpx (by rintro rfl; simp at hlt')
        have hpa := (hcell k hlt').up HU.out
        have hpf := HF.out _ (List.getElem_mem hlt')
        clear hcell hpx
        generalize ps[k]'hlt' = p at hpa hpf
        obtain ⟨vB, ⟨h0, h1, h2, h3, h4, h5, h6, h7, h8, h9, h10, h11, h12⟩, hs⟩ := hpa
        have f1 := hpf.key
        have f2 := hpf.b
        obtain ⟨aB, cB, rfl, _⟩ := hs
        obtain ⟨nB, hnB⟩ : ∃ nB, p.b.length = nB := ⟨_, rfl⟩
        obtain ⟨S, hS⟩ : ∃ S : ByteArray, (⟨p.r.key.toArray⟩ : ByteArray) = S := ⟨_, rfl⟩
        have hsz : S.size = p.r.key.length := by rw [← hS]; exact key_size _
        obtain ⟨nS, hnS⟩ : ∃ nS, S.size = nS := ⟨_, rfl⟩
        have f3 : (nS : Int) ≤ 140737488355328 := by omega
        have f4 : (0 : Int) ≤ (nS : Int) := by omega
        have f5 : (S.size : Int) = (nS : Int) := by rw [hnS]
        rw [hS] at h3
        rw [hnB] at h12 f2
        have g2 : (0 : Int) ≤ (nB : Int) := by omega
        have hb1 : ((n + nB + nS : Nat) : Int) ≤ 562949953421312 := by omega
        clear hpf f1 h0 h1 h2 h4 h5 h6 h7 h8 h9 h10 h11 hnB hS hsz hnS hlt'
        go_wp2_with fail
        go_quiet (fail)
        obtain ⟨w8, hw8⟩ : ∃ w8, wr.drewN nq = w8 := ⟨_, rfl⟩
        have H8 : Hid (Up w w8) := by show Up w w8; rw [← hw8]; exact HU.out.trans (up_drewN _ _)
        rw [hw8]
        clear hw8 h3 h12 HU
        go_wp2
        go_roundg (N - (k + 1))
        case measure => have := Hlt.out; omega
        case rel => exact ⟨k + 1, n + nB + nS, Hlt.out, rfl, by go_num, by go_num, hb1, H8⟩
      · obtain rfl : k = N := by omega
        have hfin := HU
        clear HU hlt hpx
        go_wp2
        go_ret
        exact ⟨⟨_, rfl⟩, hfin.out⟩
    · have hn2 : (16777216 : Int) < (n : Int) := by omega
      have hfin := HU
      clear HU hpx
      go_wp2
      all_goals (go_ret; exact ⟨⟨_, rfl⟩, hfin.out⟩)

set_option maxHeartbeats 1600000 in
theorem RecordAll_any (v : Value) (ps : List OpRd) (w : World) (ad : Nat → Addr) (hk : RKnA w ad) (hp : OpsRIn w v ps) (hlen : (ps.length : Int) ≤ 140737488351232) (hf : ∀ p ∈ ps, p.Fits) :
    Calls Tryd.prog 3 #[v] w fun e w' => e = .returned (.bool true) ∧ Up w w' := by
  have hp0 := hp
  obtain ⟨ao, cap, rfl, hpx⟩ := hp
  have HK : Hid (RKnA w ad ∧ ∀ p ∈ ps, p.Fits) := ⟨hk, hf⟩
  go_enter Tryd.func3, Tryd.ntmps3
  go_wp2_with fail
  refine (rawake_any _ ad (rkn_all hk)).mono ?_
  rintro e w1 ⟨rfl, hu1⟩
  have hp1 : OpsRIn w1 (.slice ao ps.length cap) ps := ⟨ao, cap, rfl, fun hn => by
    obtain ⟨b, o, e, h⟩ := hpx hn
    exact ⟨b, o, e, fun i hi => (h i hi).up hu1⟩⟩
  go_wp2_with fail
  refine (qmuch_any _ ps _ hp1 hlen hf).mono ?_
  rintro e w2 ⟨⟨r, rfl⟩, u2⟩
  have hu2 := hu1.trans u2
  clear hp1 hp0 hk hf hu1 u2
  cases r with
  | true =>
    go_wp2
    go_ret
    exact ⟨rfl, hu2⟩
  | false =>
    go_wp2
    go_loopg [3, 4] ps.length (fun g ok i wr => ∃ k : Nat, k ≤ ps.length ∧ g = ps.length - k ∧ i = .int .i64 k ∧ ok = .bool true ∧ Up w wr)
    case atStart => exact ⟨0, by omega, rfl, rfl, rfl, hu2⟩
    case round =>
      obtain ⟨k, hk, rfl, rfl, rfl, hup⟩ := hrel
      by_cases hlt : k < ps.length
      · obtain ⟨b, o, rfl, hcell⟩ := hpx (by rintro rfl; simp at hlt)
        have hpa := (hcell k hlt).up hup
        have hpf := HK.out.2 _ (List.getElem_mem hlt)
        have Hlt : Hid (k < ps.length) := hlt
        clear hcell hpx
        generalize ps[k]'hlt = p at hpa hpf
        obtain ⟨vB, ⟨h0, h1, h2, h3, h4, h5, h6, h7, h8, h9, h10, h11, h12⟩, hs⟩ := hpa
        have key := qplays_any p vB wr ad (HK.out.1.up hup) hs hpf
        obtain ⟨aB, cB, rfl, _⟩ := hs
        clear hpf
        go_wp2_with fail
        refine key.mono ?_
        rintro e w5 ⟨rfl, hu5⟩
        have hup5 := hup.trans hu5
        clear key h0 h1 h2 h3 h4 h5 h6 h7 h8 h9 h10 h11 h12 hu5
        go_wp2
        go_roundg (ps.length - (k + 1))
        case measure => have := Hlt.out; omega
        case rel => exact ⟨k + 1, Hlt.out, rfl, by go_num, rfl, hup5⟩
      · go_wp2
        go_ret
        exact ⟨rfl, hup⟩
end Go.Proofs.YtcllenlpoknakaaDoor
