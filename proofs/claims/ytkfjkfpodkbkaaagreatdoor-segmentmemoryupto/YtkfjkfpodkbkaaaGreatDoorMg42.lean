/- Merged: SgBk0. -/
import Derived.Test.YtkfjkfpodkbkaaaGreatDoorMg38
import Derived.Test.YtkfjkfpodkbkaaaGreatDoorMg41
import Derived.Test.YtkfjkfpodkbkaaaGreatDoorMg40
import Derived.BigQuiet
set_option linter.unusedVariables false
set_option linter.unusedSimpArgs false
namespace Go.Proofs.YtkfjkfpodkbkaaaGreatDoor
open Go Go.RowKit

theorem Fits.append : ∀ {first : Nat} {a b : List (List Rec)}, Fits first a → Fits (first + cntB a) b → Fits first (a ++ b)
  | first, [], b, _, h => by simpa [cntB] using h
  | first, g :: a, b, h, k => by
    have e : cntB (g :: a) = g.length + cntB a := by simp [cntB]
    exact ⟨h.1, Fits.append h.2 (by rw [Nat.add_assoc, ← e]; exact k)⟩
theorem cntB_append (a b : List (List Rec)) : cntB (a ++ b) = cntB a + cntB b := by simp [cntB]
theorem Fits.many : ∀ {first : Nat} {a : List (List Rec)}, Fits first a → a.length ≤ cntB a
  | _, [], _ => Nat.zero_le _
  | first, g :: a, h => by
    have e : cntB (g :: a) = g.length + cntB a := by simp [cntB]
    have h1 := Fits.many h.2
    have h2 := List.length_pos_iff.2 h.1.one
    simp only [List.length_cons]
    omega
theorem Fits.top : ∀ {first : Nat} {a : List (List Rec)}, Fits first a → first ≤ 4611686018427387905 → first + cntB a ≤ 4611686018427387905
  | first, [], _, h => by simpa [cntB] using h
  | first, g :: a, h, _ => by
    have e : cntB (g :: a) = g.length + cntB a := by simp [cntB]
    have := Fits.top h.2 (by have := h.1.top; omega)
    omega
theorem Fits.scan {first : Nat} {gs : List (List Rec)} (h : Fits first gs) : scanB (badOf []) ((pkB first gs).length / 512) (pkB first gs) 0 first = (gs.flatten, gs.length) := by
  have hl := pkB_length first gs h
  have hs := scan_front (badOf []) gs 0 [] 0 first h (fun _ _ _ => by simp [badOf])
  rw [List.append_nil, Nat.add_zero] at hs
  rw [hl, show 512 * gs.length / 512 = gs.length by omega, hs]
  simp [scanB]
/-- What one call of Append adds. -/
theorem Fits.more {first : Nat} {gs : List (List Rec)} {rs : List Rec} (h : Fits first gs) (hn : NumOk (first + cntB gs) rs.length) (hl : anyLong rs = false) :
    Fits first (gs ++ cutsB rs.length rs) ∧ (gs ++ cutsB rs.length rs).flatten = gs.flatten ++ rs ∧ pkB first (gs ++ cutsB rs.length rs) = pkB first gs ++ packB (first + cntB gs) rs ∧ (packB (first + cntB gs) rs).length = 512 * (cutsB rs.length rs).length ∧ cntB (cutsB rs.length rs) = rs.length := by
  have h200 := anyLong_false hl
  obtain ⟨q1, q2, q3, q4⟩ := hn
  have hf := cuts_fit rs.length (first + cntB gs) rs h200 (by omega) (by omega)
  have hfl := cuts_flat rs.length rs h200 (Nat.le_refl _)
  exact ⟨h.append hf, by rw [List.flatten_append, hfl], pkB_append _ _ _, pkB_length _ _ hf, by unfold cntB; rw [hfl]⟩

theorem Rw.values {w : World} {v : Value} {L : List Rec} (h : Rw w v L) (hne : L ≠ []) : ∃ (b o cap : Nat) (us : List Value), v = .slice (some ⟨b, o, none⟩) L.length cap ∧ us.length = L.length ∧ (∀ j u, us[j]? = some u → w.cell? ((⟨b, o, none⟩ : Addr).add j) = some u) ∧ (∀ j (h1 : j < us.length) (h2 : j < L.length), Sl 0 w us[j] L[j]) := by
  obtain ⟨ao, cap, rfl, hc, hx⟩ := h
  obtain ⟨b, o, rfl, hl⟩ := hx hne
  refine ⟨b, o, cap, (List.range L.length).map (fun i => (w.cell? ⟨b, o + i, none⟩).getD (.bool false)), rfl, by simp, fun j u hj => ?_, fun j h1 h2 => ?_⟩
  · obtain ⟨hj1, hj2⟩ := List.getElem?_eq_some_iff.1 hj
    simp only [List.length_map, List.length_range] at hj1
    obtain ⟨vi, q1, q2⟩ := hl j hj1
    simp only [List.getElem_map, List.getElem_range, q1, Option.getD_some] at hj2
    subst hj2
    rw [Addr.add_lit]
    exact q1
  · obtain ⟨vi, q1, q2⟩ := hl j h2
    simp only [List.getElem_map, List.getElem_range, q1, Option.getD_some]
    exact q2
theorem sl_one {base : Nat} {w : World} {v : Value} {bs : List UInt8} (h : Sl base w v bs) : v.oneCell' = true := by
  obtain ⟨ao, cap, rfl⟩ := h.slice
  rfl

/-- An own row of slices that read as records of an older world. -/
structure AllR (w0 wr : World) (base : Nat) (va : Value) (L : List Rec) (vs : List Value) : Prop where
  row : OwnV wr base va vs
  len : vs.length = L.length
  each : ∀ i (h1 : i < vs.length) (h2 : i < L.length), Sl 0 w0 vs[i] L[i]
theorem AllR.nil (w0 wr : World) (base : Nat) : AllR w0 wr base (.slice none 0 0) [] [] := ⟨OwnV.nil _ _, rfl, fun i h1 _ => by simp at h1⟩
theorem AllR.rw {w0 wr : World} {base : Nat} {va : Value} {L : List Rec} {vs : List Value} (h : AllR w0 wr base va L vs) (u : Up w0 wr) : Rw wr va L := by
  rcases h.row.parts with ⟨rfl, rfl⟩ | ⟨g, cap, cur, rfl, hb, hlt, hg, hnc, hcm, hcs, ht⟩
  · have : L = [] := List.eq_nil_of_length_eq_zero h.len.symm
    subst this
    exact ⟨none, 0, rfl, Nat.zero_le _, fun h => absurd rfl h⟩
  · refine ⟨some ⟨g, 0, none⟩, cap, by rw [h.len], by rw [← h.len]; exact hnc, fun _ => ⟨g, 0, rfl, fun i hi => ⟨vs[i]'(by rw [h.len]; exact hi), ?_, (h.each i _ hi).up u⟩⟩⟩
    obtain ⟨g', cap', e, hc⟩ := h.row.cell i (by rw [h.len]; exact hi)
    simp only [Value.slice.injEq, Option.some.injEq, Addr.mk.injEq] at e
    obtain ⟨⟨rfl, _⟩, _⟩ := e
    rw [Nat.zero_add]; exact hc
theorem AllR.kept {w0 wr w' : World} {base : Nat} {va : Value} {L : List Rec} {vs : List Value} {S : List Nat} (h : AllR w0 wr base va L vs) (t : Touch wr w' S) (hS : ∀ k, va.ownBlock = some k → k ∉ S) : AllR w0 w' base va L vs :=
  ⟨Touch.row h.row t hS, h.len, h.each⟩
theorem AllR.more {w0 wr w' : World} {base : Nat} {va va' : Value} {L M : List Rec} {vs us : List Value} (h : AllR w0 wr base va L vs) (ho : OwnV w' base va' (vs ++ us)) (hl : us.length = M.length) (he : ∀ i (h1 : i < us.length) (h2 : i < M.length), Sl 0 w0 us[i] M[i]) : AllR w0 w' base va' (L ++ M) (vs ++ us) := by
  refine ⟨ho, by simp [h.len, hl], fun i h1 h2 => ?_⟩
  by_cases hi : i < vs.length
  · rw [List.getElem_append_left hi, List.getElem_append_left (by rw [← h.len]; exact hi)]
    exact h.each i _ _
  · have e := h.len
    rw [List.getElem_append_right (by omega), List.getElem_append_right (by omega)]
    simp only [e]
    exact he _ _ _

theorem SgAt.kept {W00 w w' : World} {db sb : Nat} {nm : Nm} {next blocks : Nat} {whole sick : Bool} {D : Dsk} {L S : List Nat} (h : SgAt W00 w db sb nm next blocks whole sick D L) (t : Touch w w' S) (hS : ∀ k ∈ S, k ∉ L ∧ k ≠ sb ∧ W00.heap.size ≤ k) : SgAt W00 w' db sb nm next blocks whole sick D L :=
  ⟨t.box h.box (fun hm => (hS _ hm).2.1 rfl), h.dsk.kept t (fun k hk hm => (hS k hm).1 hk), h.ns, h.new, Touch.up_of h.up t (fun k hk => (hS k hk).2.2)⟩

set_option maxHeartbeats 800000 in
/-- lists over two rows that read alike. -/
theorem lists_any (va vb : Value) (L : List (List UInt8)) (w : World) (ha : Rw w va L) (hb : Rw w vb L) (hl : L.length ≤ 140737488355328) :
    Calls Tryz.prog 23 #[va, vb] w fun e w' => e = .returned (.bool true) ∧ ∃ n, w' = w.drewN n := by
  obtain ⟨ao, ac, rfl⟩ : ∃ ao ac, va = .slice ao L.length ac := by obtain ⟨ao, ac, e, _⟩ := ha; exact ⟨ao, ac, e⟩
  obtain ⟨bo, bc, rfl⟩ : ∃ ao ac, vb = .slice ao L.length ac := by obtain ⟨ao, ac, e, _⟩ := hb; exact ⟨ao, ac, e⟩
  obtain ⟨N, hN⟩ : ∃ N, L.length = N := ⟨_, rfl⟩
  have HN : Hid (L.length = N) := hN
  rw [hN] at hl ha hb ⊢
  have HX : Hid (Rw w (.slice ao N ac) L ∧ Rw w (.slice bo N bc) L) := ⟨ha, hb⟩
  clear hN ha hb
  go_enter Tryz.func23, Tryz.ntmps23
  go_wp2
  go_loopg [5] N (fun g i wr => ∃ k : Nat, k ≤ N ∧ g = N - k ∧ i = .int .i64 k ∧ Hid (∃ n, wr = w.drewN n))
  case atStart => exact ⟨0, by omega, rfl, rfl, ⟨0, rfl⟩⟩
  case round =>
    obtain ⟨k, hk, rfl, rfl, HR⟩ := hrel
    by_cases hlt : k < N
    · obtain ⟨hX, hY⟩ := HX.out
      have l1 : k < L.length := by have := HN.out; omega
      obtain ⟨b, o, c1, x, e1, h1⟩ := hX.at k l1
      obtain ⟨b', o', c2, y, e2, h2⟩ := hY.at k l1
      simp only [Value.slice.injEq] at e1 e2
      obtain ⟨rfl, z1, rfl⟩ := e1
      obtain ⟨rfl, z2, rfl⟩ := e2
      clear z1 z2
      obtain ⟨n0, hn0⟩ := HR.out
      have hup : Up w wr := by rw [hn0]; exact up_drewN _ _
      have HN0 : Hid (wr = w.drewN n0) := hn0
      clear hn0
      obtain ⟨R, hR⟩ : ∃ R, L[k]'l1 = R := ⟨_, rfl⟩
      rw [hR] at h1 h2
      have hs1 : ∀ m, (convert 60 9 x).run Tryz.prog (wr.drewN m) = .ok (Sv R) (wr.drewN m) := fun m => sl_string (h1 _ (hup.trans (up_drewN _ _))).2
      have hs2 : ∀ m, (convert 60 9 y).run Tryz.prog (wr.drewN m) = .ok (Sv R) (wr.drewN m) := fun m => sl_string (h2 _ (hup.trans (up_drewN _ _))).2
      have d1 := (h1 wr hup).1
      have d2 := (h2 wr hup).1
      have Hlt : Hid (k < N) := hlt
      obtain ⟨ax, cx, rfl⟩ := (h1 wr hup).2.slice
      obtain ⟨ay, cy, rfl⟩ := (h2 wr hup).2.slice
      obtain ⟨RN, hRN⟩ : ∃ RN, R.length = RN := ⟨_, rfl⟩
      rw [hRN] at hs1 hs2 d1 d2
      clear hX hY h1 h2 l1 hR hRN
      go_wp2_with fail
      go_quiet (fail)
      go_wp2
      go_roundg (N - (k + 1))
      case measure => have := Hlt.out; omega
      case rel => exact ⟨k + 1, Hlt.out, rfl, by go_num, ⟨n0 + nq, by rw [HN0.out, World.drewN_drewN]⟩⟩
    · obtain rfl : k = N := by omega
      have hup := HR.out
      clear HX HN
      go_wp2
      go_ret
      exact ⟨rfl, hup⟩
theorem agree_nil (w : World) : Calls Tryz.prog 25 #[.nilIface, .nilIface] w fun e w' => e = .returned (.bool true) ∧ w' = w := by
  go_enter Tryz.func25, Tryz.ntmps25
  go_wp2
  go_ret
  exact ⟨rfl, rfl⟩
theorem agree_same (a : Addr) (w : World) : Calls Tryz.prog 25 #[E a, E a] w fun e w' => e = .returned (.bool true) ∧ w' = w := by
  have q := eq_same a
  go_enter Tryz.func25, Tryz.ntmps25
  go_wp2
  go_ret
  exact ⟨rfl, rfl⟩
theorem wtG_len (gs : List Grp) : gs.length ≤ wtG gs := by
  induction gs with
  | nil => simp
  | cons g gs ih =>
    have e : wtG (g :: gs) = (wtR g.1 + 1) + wtG gs := by simp [wtG]
    rw [e, List.length_cons]; omega
theorem pkE_cases (ad : Nat → Addr) (x : Nat) (L : List Rec) (hne : L ≠ []) : (NumOk x L.length ∧ anyLong L = false ∧ pkE ad x L = .nilIface ∧ pkR x L = packB x L) ∨ (∃ a, pkE ad x L = E a ∧ pkR x L = []) := by
  unfold pkE pkR
  rw [if_neg hne]
  by_cases h1 : NumOk x L.length
  · rw [if_pos h1]
    by_cases h2 : anyLong L = true
    · rw [if_pos h2, if_neg (by simp [h2])]
      exact .inr ⟨_, rfl, rfl⟩
    · have h3 : anyLong L = false := by simpa using h2
      rw [if_neg h2, if_pos ⟨h1, h3⟩]
      exact .inl ⟨h1, h3, rfl, rfl⟩
  · rw [if_neg h1, if_neg (fun h => h1 h.1)]
    exact .inr ⟨_, rfl, rfl⟩

/-- While a segment is filled. -/
structure BackR (w0 w1 wr : World) (db sb x : Nat) (va : Value) (GS : List (List Rec)) (wt i : Nat) (F : Fil) (ops room : Nat) (L : List Nat) (vs : List Value) : Prop where
  sg : SgAt w1 wr db sb (nameB x) (x + cntB GS) GS.length true false (sgD (nameB x) F ops 0 (fun _ => none) 0 room) L
  fok : F.Ok
  dat : F.seen.data = pkB x GS
  bad : F.seen.bad = []
  fit : Fits x GS
  all : AllR w0 wr w1.heap.size va GS.flatten vs
  apart : ∀ k, va.ownBlock = some k → k ∉ L ∧ k ≠ sb
  num : 1 ≤ room ∧ ops ≤ room ∧ room ≤ 3 + i ∧ 8 * cntB GS ≤ wt
def BackS (w0 w1 wr : World) (db x : Nat) (gs : List Grp) (i sb : Nat) (va : Value) (nb : Nat) : Prop := ∃ GS F ops room L vs, nb = GS.length ∧ BackR w0 w1 wr db sb x va GS (wtG (gs.take i)) i F ops room L vs
end Go.Proofs.YtkfjkfpodkbkaaaGreatDoor
