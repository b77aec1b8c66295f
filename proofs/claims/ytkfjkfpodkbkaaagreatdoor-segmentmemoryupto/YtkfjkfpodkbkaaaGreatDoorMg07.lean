/- Merged: DkCut, DkSpoil. -/
import Derived.Test.YtkfjkfpodkbkaaaGreatDoorMg06
import Derived.Laws.OwnMore
import Derived.Laws.MakeOwn
set_option linter.unusedVariables false
set_option linter.unusedSimpArgs false
namespace Go.Proofs.YtkfjkfpodkbkaaaGreatDoor
open Go Go.RowKit

theorem set_same {cs : Array Value} {i : Nat} {v : Value} (h : cs[i]? = some v) : cs.setIfInBounds i v = cs := by
  refine Array.ext_getElem? fun j => ?_
  rw [Array.getElem?_setIfInBounds]
  split
  · rename_i e; subst e
    have := (Array.getElem?_eq_some_iff.1 h).1
    rw [if_pos this, h]
  · rfl

theorem put_none (b o s : Nat) (ao : Option Addr) (cap : Nat) (w : World) :
    Calls Tryz.prog 101 #[.pointer (some ⟨b, o, none⟩), .int .i64 (s : Int), .slice ao 0 cap] w fun e w' => e = .returned (.tuple #[]) ∧ w' = w := by
  go_enter Tryz.func101, Tryz.ntmps101
  go_wp2
  refine bodyPost_ret (results_none rfl _ _ _) rfl ?_
  exact ⟨rfl, rfl⟩

theorem put_any (base b o s : Nat) (cs : Array Value) (vd vb vs : Value) (c : Con) (d : List UInt8) (w : World)
    (hI : InBox w b o cs base vd vb c) (hr : c.bad.Pairwise (· < ·)) (hbase : base ≤ w.heap.size)
    (hs : Sl 0 w vs d) (hsn : d ≠ [] → ∀ k, vs.ownBlock = some k → k ∉ ob vd ∧ k ≠ b) (hl : s + d.length ≤ CB) (hl2 : c.data.length ≤ CB) (hl3 : c.bad.length ≤ 10000000000000) :
    Calls Tryz.prog 101 #[.pointer (some ⟨b, o, none⟩), .int .i64 (s : Int), vs] w fun e w' => ∃ vd' vb', e = .returned (.tuple #[]) ∧ InBox w' b o ((cs.setIfInBounds o vd').setIfInBounds (o + 1) vb') base vd' vb' (c.put s d) ∧
      (∀ k ∈ ob vd', k ∈ ob vd ∨ w.heap.size ≤ k) ∧ ob vb' = ob vb ∧ Touch w w' (b :: ob vd ++ ob vb) := by
  by_cases hd : d = []
  · subst hd
    obtain ⟨ao, cap, rfl, _⟩ := hs
    refine (put_none b o s ao cap w).mono ?_
    rintro e w' ⟨rfl, rfl⟩
    have hp : c.put s [] = c := if_pos rfl
    rw [hp]
    refine ⟨vd, vb, rfl, ?_, fun k hk => .inl hk, rfl, Touch.refl _ _⟩
    rw [set_same hI.d0, set_same hI.d1]
    exact hI
  · exact put_some base b o s cs vd vb vs c d w hI hr hbase hs (hsn hd) hd hl hl2 hl3

theorem ob_slice (p : Option Addr) (n c m d : Nat) : ob (.slice p n c) = ob (.slice p m d) := by cases p <;> rfl
/-- An own row cut to its first elements is one. -/
theorem OwnB.take {w : World} {base g cap : Nat} {bs : List UInt8} (h : OwnB w base (.slice (some ⟨g, 0, none⟩) bs.length cap) bs) (n : Nat) (hn : n ≤ bs.length) : OwnB w base (.slice (some ⟨g, 0, none⟩) n cap) (bs.take n) := by
  rcases h.parts with ⟨e, _⟩ | ⟨g', cap', cur, e, hb, hlt, hg, hnc, hcm, hcs, ht⟩
  · cases e
  · simp only [Value.slice.injEq, Option.some.injEq, Addr.mk.injEq] at e
    obtain ⟨⟨rfl, _⟩, _, rfl⟩ := e
    have hl : (bs.take n).length = n := by simp; omega
    have h0 := OwnB.mk (w := w) (base := base) (bs := bs.take n) hb hg (by rw [hl]; omega) hcm hcs (by rw [hl, show Bv (bs.take n) = (Bv bs).take n from List.map_take, ← ht, List.take_take]; congr 1; omega)
    rw [hl] at h0
    exact h0
theorem OwnN.take {w : World} {base g cap : Nat} {bs : List Nat} (h : OwnN w base (.slice (some ⟨g, 0, none⟩) bs.length cap) bs) (n : Nat) (hn : n ≤ bs.length) : OwnN w base (.slice (some ⟨g, 0, none⟩) n cap) (bs.take n) := by
  rcases h.parts with ⟨e, _⟩ | ⟨g', cap', cur, e, hb, hlt, hg, hnc, hcm, hcs, ht⟩
  · cases e
  · simp only [Value.slice.injEq, Option.some.injEq, Addr.mk.injEq] at e
    obtain ⟨⟨rfl, _⟩, _, rfl⟩ := e
    have hl : (bs.take n).length = n := by simp; omega
    have h0 := OwnN.mk (w := w) (base := base) (zs := bs.take n) hb hg (by rw [hl]; omega) hcm hcs (by rw [hl, ← Nv_take, ← ht, List.take_take]; congr 1; omega)
    rw [hl] at h0
    exact h0

/-- content.sector: a slice of the content's bytes. -/
theorem sector_any (c : Con) (pa : Option Addr) (capd : Nat) (vb : Value) (i : Nat) (w : World) (hi : 512 * i < c.data.length) (hl : c.data.length ≤ CB) (hc : c.data.length ≤ capd) (g : Nat) (hp : pa = some ⟨g, 0, none⟩) :
    Calls Tryz.prog 95 #[.agg #[.slice pa c.data.length capd, vb], .int .i64 (i : Int)] w fun e w' => e = .returned (.slice (some ⟨g, 512 * i, none⟩) (sect c.data i).length (capd - 512 * i)) ∧ Up w w' := by
  subst hp
  unfold CB at hl
  have e0 : (0 : Int) ≤ (i : Int) := by omega
  obtain ⟨S, hS⟩ : ∃ S : Nat, 512 * i = S := ⟨_, rfl⟩
  have e1 : (i : Int) * 512 = (S : Int) := by omega
  have e2 : IntKind.i64.wrap (S : Int) = (S : Int) := by rw [IntKind.wrap_i64]; omega
  have e3 : (0 : Int) ≤ (S : Int) := by omega
  obtain ⟨T, hT⟩ : ∃ T : Nat, min (S + 512) c.data.length = T := ⟨_, rfl⟩
  have e4 : min ((S : Int) + 512) (c.data.length : Int) = (T : Int) := by omega
  have e5 : IntKind.i64.wrap ((S : Int) + 512) = (S : Int) + 512 := by rw [IntKind.wrap_i64]; omega
  have e6 : (T : Int) ≤ (c.data.length : Int) := by omega
  have e7 : (S : Int) ≤ (T : Int) := by omega
  have e8 : T - S = (sect c.data i).length := by rw [sect_length, hS]; omega
  have e9 : ¬ (capd = S) := by omega
  have e10 : S ≤ T := by omega
  have e11 : T ≤ capd := by omega
  have e12 : (S : Int) ≤ 4611686018427387904 := by omega
  rw [hS] at hi ⊢
  rw [← e8]
  have H : Hid (512 * i = S ∧ c.data.length ≤ 200000000000000 ∧ min (S + 512) c.data.length = T ∧ S < c.data.length) := ⟨hS, hl, hT, hi⟩
  clear hS hl hT hi e8
  go_enter Tryz.func95, Tryz.ntmps95
  go_wp2
  go_ret
  exact ⟨rfl, Up.alloc _ _⟩

theorem OwnB.cut {w : World} {base : Nat} {p : Option Addr} {cap : Nat} {bs : List UInt8} (h : OwnB w base (.slice p bs.length cap) bs) (n : Nat) (hn : n ≤ bs.length) : OwnB w base (.slice p n cap) (bs.take n) := by
  rcases h.parts with ⟨e, e2⟩ | ⟨g', cap', cur, e, _⟩
  · subst e2
    simp only [Value.slice.injEq] at e
    obtain ⟨rfl, _, rfl⟩ := e
    obtain rfl : n = 0 := by simpa using hn
    exact Own.nil _ _ _
  · simp only [Value.slice.injEq] at e
    obtain ⟨rfl, _, rfl⟩ := e
    exact h.take n hn
theorem OwnN.cut {w : World} {base : Nat} {p : Option Addr} {cap : Nat} {bs : List Nat} (h : OwnN w base (.slice p bs.length cap) bs) (n : Nat) (hn : n ≤ bs.length) : OwnN w base (.slice p n cap) (bs.take n) := by
  rcases h.parts with ⟨e, e2⟩ | ⟨g', cap', cur, e, _⟩
  · subst e2
    simp only [Value.slice.injEq] at e
    obtain ⟨rfl, _, rfl⟩ := e
    obtain rfl : n = 0 := by simpa using hn
    exact OwnN.nil _ _
  · simp only [Value.slice.injEq] at e
    obtain ⟨rfl, _, rfl⟩ := e
    exact h.take n hn
theorem OwnB.cap {w : World} {base : Nat} {p : Option Addr} {n cap : Nat} {bs : List UInt8} (h : OwnB w base (.slice p n cap) bs) : n = bs.length ∧ n ≤ cap ∧ cap ≤ maxLen ∧ (p = none → cap = 0) := by
  rcases h.parts with ⟨e, e2⟩ | ⟨g', cap', cur, e, _, _, _, h1, h2, _⟩
  · simp only [Value.slice.injEq] at e
    obtain ⟨rfl, rfl, rfl⟩ := e
    exact ⟨by rw [e2]; rfl, Nat.le_refl _, by unfold maxLen; omega, fun _ => rfl⟩
  · simp only [Value.slice.injEq] at e
    obtain ⟨rfl, rfl, rfl⟩ := e
    exact ⟨rfl, h1, h2, fun e => by cases e⟩
theorem OwnN.cap {w : World} {base : Nat} {p : Option Addr} {n cap : Nat} {bs : List Nat} (h : OwnN w base (.slice p n cap) bs) : n = bs.length ∧ n ≤ cap ∧ cap ≤ maxLen ∧ (p = none → cap = 0) := by
  rcases h.parts with ⟨e, e2⟩ | ⟨g', cap', cur, e, _, _, _, h1, h2, _⟩
  · simp only [Value.slice.injEq] at e
    obtain ⟨rfl, rfl, rfl⟩ := e
    exact ⟨by rw [e2]; rfl, Nat.le_refl _, by unfold maxLen; omega, fun _ => rfl⟩
  · simp only [Value.slice.injEq] at e
    obtain ⟨rfl, rfl, rfl⟩ := e
    exact ⟨rfl, h1, h2, fun e => by cases e⟩

set_option maxRecDepth 20000 in
theorem cut_any (base b o n : Nat) (cs : Array Value) (vd vb : Value) (c : Con) (w : World)
    (hI : InBox w b o cs base vd vb c) (hr : c.bad.Pairwise (· < ·)) (hn : n ≤ CB) (hl3 : c.bad.length ≤ 10000000000000) :
    Calls Tryz.prog 156 #[.pointer (some ⟨b, o, none⟩), .int .i64 (n : Int)] w fun e w' => ∃ vd' vb', e = .returned (.tuple #[]) ∧ InBox w' b o ((cs.setIfInBounds o vd').setIfInBounds (o + 1) vb') base vd' vb' (c.cut n) ∧
      ob vd' = ob vd ∧ ob vb' = ob vb ∧ Touch w w' [b] := by
  unfold CB at hn
  obtain ⟨pa, capd, rfl⟩ := hI.dat.slice
  obtain ⟨pb, capb, rfl⟩ := hI.bad.slice
  obtain ⟨_, hcd, hmd, hpd⟩ := hI.dat.cap
  obtain ⟨_, hcb, hmb, hpb⟩ := hI.bad.cap
  have c0 : w.cell? ⟨b, o, none⟩ = some (.slice pa c.data.length capd) := by rw [hI.box.cell, hI.d0]
  have f0 := hI.box.frozen o
  obtain ⟨T, hT⟩ : ∃ T : Nat, min n c.data.length = T := ⟨_, rfl⟩
  have e1 : min (n : Int) (c.data.length : Int) = (T : Int) := by omega
  have e2 : (0 : Int) ≤ (T : Int) := by omega
  have e3 : T ≤ capd := by omega
  have e4 : (T : Int) ≤ (capd : Int) := by omega
  obtain ⟨w1, hw1⟩ : ∃ w1, w.drew.setCell ⟨b, o, none⟩ (.slice pa T capd) = w1 := ⟨_, rfl⟩
  have hx1 : Box w1 b (cs.setIfInBounds o (.slice pa T capd)) := by rw [← hw1]; exact (Box.drew hI.box).set o _
  have t1 : Touch w w1 [b] := by rw [← hw1]; exact (Touch.drew (Touch.refl _ _)).setCell (.inl (by simp)) _ _
  have nd := hI.nd
  rw [List.cons_append, List.nodup_cons] at nd
  have hd1 : OwnB w1 base (.slice pa T capd) (c.data.take T) := Touch.row (hI.dat.cut T (by omega)) t1 (fun k hk => by simp; rintro rfl; exact nd.1 (List.mem_append_left _ (by rw [ob_slice pa c.data.length capd T capd]; exact mem_ob.2 hk)))
  have hb1 : OwnN w1 base (.slice pb c.bad.length capb) c.bad := Touch.row hI.bad t1 (fun k hk => by simp; rintro rfl; exact nd.1 (List.mem_append_right _ (mem_ob.2 hk)))
  have g1 : (cs.setIfInBounds o (.slice pa T capd))[o + 1]? = some (.slice pb c.bad.length capb) := by rw [Array.getElem?_setIfInBounds_ne (by omega)]; exact hI.d1
  have hlt0 : o < cs.size := (Array.getElem?_eq_some_iff.1 hI.d0).1
  have hlt1 : o + 1 < cs.size := (Array.getElem?_eq_some_iff.1 hI.d1).1
  obtain ⟨Q, hQ⟩ : ∃ Q : Nat, n / 512 = Q := ⟨_, rfl⟩
  have q1 : (n : Int) / 512 = (Q : Int) := by omega
  have q0 : (0 : Int) ≤ (n : Int) := by omega
  have q2 : (n : Int) ≤ 4611686018427387904 := by omega
  have q3 : (Q : Int) ≤ 4611686018427387904 := by omega
  have q4 : (0 : Int) ≤ (Q : Int) := by omega
  obtain ⟨C, hC⟩ : ∃ C : Nat, cnt c.bad Q = C := ⟨_, rfl⟩
  have hCl : C ≤ c.bad.length := by rw [← hC]; exact cnt_le _ _
  have hs := search_call base (.slice pb c.bad.length capb) c.bad Q w1 hb1 hr (by omega)
  rw [hC] at hs
  have k1 : (C : Int) ≤ (capb : Int) := by omega
  have k2 : C ≤ capb := by omega
  have hcut : c.cut n = ⟨c.data.take T, c.bad.take C⟩ := by unfold Con.cut; rw [hT, hQ, hC]
  have HH : Hid (c.cut n = ⟨c.data.take T, c.bad.take C⟩ ∧ C ≤ c.bad.length ∧ T ≤ c.data.length ∧ Box w1 b (cs.setIfInBounds o (.slice pa T capd)) ∧ Touch w w1 [b] ∧ OwnB w1 base (.slice pa T capd) (c.data.take T) ∧ OwnN w1 base (.slice pb c.bad.length capb) c.bad) := ⟨hcut, hCl, by omega, hx1, t1, hd1, hb1⟩
  have HS : Hid (Calls Tryz.prog 141 #[.slice pb c.bad.length capb, .int .i64 (Q : Int)] w1 fun e w' => e = .returned (.tuple #[.int .i64 (C : Int), .bool (there c.bad Q)]) ∧ ∃ q, w' = w1.drewN q) := hs
  have HG : Hid ((cs.setIfInBounds o (.slice pa T capd))[o + 1]? = some (.slice pb c.bad.length capb) ∧ o < cs.size ∧ o + 1 < cs.size) := ⟨g1, hlt0, hlt1⟩
  have HW : Hid (w.drew.setCell ⟨b, o, none⟩ (.slice pa T capd) = w1) := hw1
  have HI : Hid (InBox w b o cs base (.slice pa c.data.length capd) (.slice pb c.bad.length capb) c) := hI
  clear hI hn hl3 hr hcd hmd hcb hmb hT hx1 t1 hd1 hb1 hQ hC hCl hs hcut hw1 g1 hlt0 hlt1 nd
  go_enter Tryz.func156, Tryz.ntmps156
  go_wp2
  go_cut [20] (fun s20 wx => w1 = wx)
  case first =>
    go_region
    all_goals
      go_wp2_with fail
      go_meet
      case rel => exact HW.out.symm
  case rest =>
    obtain rfl := hcut
    obtain ⟨hcut, hCl, hTl, hx1, t1, hd1, hb1⟩ := HH.out
    have c11 : w1.cell? ⟨b, o + 1, none⟩ = some (.slice pb c.bad.length capb) := by rw [hx1.cell, HG.out.1]
    have f11 := hx1.frozen (o + 1)
    clear hx1 t1 hd1 hb1 hCl hTl hcut
    go_wp2_with (go_at_call 141; refine HS.out.mono ?_; rintro e w4 ⟨rfl, qq, rfl⟩)
    go_end0
    obtain ⟨hcut, hCl, hTl, hx1, t1, hd1, hb1⟩ := HH.out
    have hI := HI.out
    have tq : Touch w ((w1.drewN qq).setCell ⟨b, o + 1, none⟩ (.slice pb C capb)) [b] := (t1.trans (Touch.of_up (up_drewN w1 qq) [b]) (fun k hk => .inl hk)).setCell (.inl (by simp)) _ _
    have t2 : Touch w1 ((w1.drewN qq).setCell ⟨b, o + 1, none⟩ (.slice pb C capb)) [b] := (Touch.of_up (up_drewN w1 qq) [b]).setCell (.inl (by simp)) _ _
    have nd := hI.nd
    rw [List.cons_append, List.nodup_cons] at nd
    have hx2 : Box (w1.drewN qq) b (cs.setIfInBounds o (.slice pa T capd)) := hx1
    refine ⟨.slice pa T capd, .slice pb C capb, rfl, ⟨hx2.set (o + 1) _, ?_, ?_, ?_, ?_, ?_⟩, ob_slice _ _ _ _ _, ob_slice _ _ _ _ _, tq⟩
    · rw [Array.getElem?_setIfInBounds_ne (by omega), Array.getElem?_setIfInBounds_self_of_lt HG.out.2.1]
    · rw [Array.getElem?_setIfInBounds_self_of_lt (by rw [Array.size_setIfInBounds]; exact HG.out.2.2)]
    · rw [hcut]
      exact Touch.row hd1 t2 (fun k hk => by simp; rintro rfl; exact nd.1 (List.mem_append_left _ (by rw [ob_slice pa c.data.length capd T capd]; exact mem_ob.2 hk)))
    · rw [hcut]
      exact Touch.row (hb1.cut C hCl) t2 (fun k hk => by simp; rintro rfl; exact nd.1 (List.mem_append_right _ (by rw [ob_slice pb c.bad.length capb C capb]; exact mem_ob.2 hk)))
    · rw [ob_slice pa T capd c.data.length capd, ob_slice pb C capb c.bad.length capb]
      exact hI.nd

end Go.Proofs.YtkfjkfpodkbkaaaGreatDoor

set_option linter.unusedVariables false
set_option linter.unusedSimpArgs false
namespace Go.Proofs.YtkfjkfpodkbkaaaGreatDoor
open Go Go.RowKit

theorem made_u8 (n : Nat) (hn : n ≤ 140737488355328) (u : World) : (Instr.makeSlice 60 (.int .i64 (n : Int)) (.int .i64 (n : Int))).run Tryz.prog u =
    .ok (.slice (some ⟨u.heap.size, 0, none⟩) n n) (u.alloc (.cells (madeCells #[.int .u8 0] n) 5)) := by
  obtain ⟨i0, hi, hz0, hz1, hz2⟩ := info_parts Tryz.infoB
  have h := run_make (P := Tryz.prog) u 60 5 i0 (.int .u8 0) Tryz.underlying60 hi hz0 .i64 .i64 (n : Int) (n : Int) (by omega) (by omega) (by rw [hz2]; omega) (by omega)
  simpa [hz1, Value.cells] using h
theorem own_zeros (n : Nat) (hn : n ≤ 140737488355327) (w : World) : OwnB (w.alloc (.cells (madeCells #[.int .u8 0] n) 5)) w.heap.size (.slice (some ⟨w.heap.size, 0, none⟩) n n) (List.replicate n 0) := by
  refine ⟨by simp, .inr ⟨w.heap.size, n, _, by simp, Nat.le_refl _, heap_alloc_new _ _, by simp, by unfold maxLen; omega, by simp [size_madeCells], ?_⟩⟩
  rw [toList_madeCells_one, List.take_replicate]
  simp [Bv]

theorem InBox.up {w w' : World} {b o base : Nat} {cs : Array Value} {vd vb : Value} {c : Con} (h : InBox w b o cs base vd vb c) (u : Up w w') : InBox w' b o cs base vd vb c :=
  ⟨h.box.up u, h.d0, h.d1, Touch.row h.dat (Touch.of_up u []) (fun _ _ => by simp), Touch.row h.bad (Touch.of_up u []) (fun _ _ => by simp), h.nd⟩
theorem InBox.lt {w : World} {b o base : Nat} {cs : Array Value} {vd vb : Value} {c : Con} (h : InBox w b o cs base vd vb c) : ∀ k ∈ b :: ob vd ++ ob vb, k < w.heap.size := fun k hk => by
  simp only [List.cons_append, List.mem_cons, List.mem_append] at hk
  rcases hk with rfl | hk | hk
  · exact h.box.lt
  · exact (World.ownsRow.lt h.dat k (mem_ob.1 hk)).2
  · exact (World.ownsRow.lt h.bad k (mem_ob.1 hk)).2

set_option maxRecDepth 20000 in
set_option maxHeartbeats 400000 in
theorem spoil_any (base b o i n : Nat) (cs : Array Value) (vd vb : Value) (c : Con) (w : World)
    (hI : InBox w b o cs base vd vb c) (hok : c.Ok) (hbase : base ≤ w.heap.size) (hn : n ≤ 512) (hl : 512 * i + n ≤ CB) (hl2 : c.data.length ≤ CB) (hl3 : c.bad.length ≤ 1000000000000) :
    Calls Tryz.prog 102 #[.pointer (some ⟨b, o, none⟩), .int .i64 (i : Int), .int .i64 (n : Int)] w fun e w' => ∃ vd' vb', e = .returned (.tuple #[]) ∧ InBox w' b o ((cs.setIfInBounds o vd').setIfInBounds (o + 1) vb') base vd' vb' (c.spoil i n) ∧
      (∀ k ∈ ob vd', k ∈ ob vd ∨ w.heap.size ≤ k) ∧ (∀ k ∈ ob vb', k ∈ ob vb ∨ w.heap.size ≤ k) ∧ Touch w w' (b :: ob vd ++ ob vb) := by
  have hmk := made_u8 n (by omega) w
  obtain ⟨w1, hw1⟩ : ∃ w1, w.alloc (.cells (madeCells #[.int .u8 0] n) 5) = w1 := ⟨_, rfl⟩
  have u1 : Up w w1 := by rw [← hw1]; exact Up.alloc _ _
  have hz : OwnB w1 w.heap.size (.slice (some ⟨w.heap.size, 0, none⟩) n n) (List.replicate n 0) := by rw [← hw1]; exact own_zeros n (by omega) w
  rw [hw1] at hmk
  obtain ⟨S, hS⟩ : ∃ S : Nat, 512 * i = S := ⟨_, rfl⟩
  have e1 : (i : Int) * 512 = (S : Int) := by omega
  have e2 : (S : Int) ≤ 4611686018427387904 := by unfold CB at hl; omega
  have e3 : (0 : Int) ≤ (S : Int) := by omega
  have hp := put_any base b o S cs vd vb (.slice (some ⟨w.heap.size, 0, none⟩) n n) c (List.replicate n 0) w1 (hI.up u1) hok.rise (Nat.le_trans hbase u1.size)
    (by obtain ⟨ao, cap, h1, h2, h3, h4⟩ := hz.sl; exact ⟨ao, cap, h1, h2, h3, fun hb => by obtain ⟨b', o', h5, _, h6⟩ := h4 hb; exact ⟨b', o', h5, Nat.zero_le _, h6⟩⟩)
    (fun _ k hk => by
      simp [Value.ownBlock] at hk
      subst hk
      refine ⟨fun hm => ?_, fun e => ?_⟩
      · have := hI.lt w.heap.size (by simp [hm]); omega
      · have := hI.box.lt; omega)
    (by rw [List.length_replicate, ← hS]; exact hl) hl2 (by omega)
  have hok2 : (c.put S (List.replicate n 0)).Ok := hok.put S _
  have hl4 : (c.put S (List.replicate n 0)).bad.length ≤ c.bad.length := by
    unfold Con.put
    split
    · exact Nat.le_refl _
    · simp only [cutOut, List.length_append, List.length_take, List.length_drop]
      have := cnt_mono c.bad (show S / 512 ≤ sec (S + (List.replicate n (0 : UInt8)).length) by unfold sec; omega)
      have := cnt_le c.bad (sec (S + (List.replicate n (0 : UInt8)).length))
      omega
  have hsp : c.spoil i n = ⟨(c.put S (List.replicate n 0)).data, putIn (c.put S (List.replicate n 0)).bad i⟩ := by unfold Con.spoil; rw [hS]
  obtain ⟨D, hD⟩ : ∃ D, c.put S (List.replicate n 0) = D := ⟨_, rfl⟩
  rw [hD] at hp hok2 hl4 hsp
  have HP : Hid (Calls Tryz.prog 101 #[.pointer (some ⟨b, o, none⟩), .int .i64 (S : Int), .slice (some ⟨w.heap.size, 0, none⟩) n n] w1 fun e w' => ∃ vd' vb', e = .returned (.tuple #[]) ∧ InBox w' b o ((cs.setIfInBounds o vd').setIfInBounds (o + 1) vb') base vd' vb' D ∧
      (∀ k ∈ ob vd', k ∈ ob vd ∨ w1.heap.size ≤ k) ∧ ob vb' = ob vb ∧ Touch w1 w' (b :: ob vd ++ ob vb)) := hp
  have HA : Hid (D.Ok ∧ D.bad.length ≤ 1000000000000 ∧ c.spoil i n = ⟨D.data, putIn D.bad i⟩ ∧ Up w w1 ∧ InBox w b o cs base vd vb c ∧ base ≤ w.heap.size) := ⟨hok2, by omega, hsp, u1, hI, hbase⟩
  have n0 : (0 : Int) ≤ (n : Int) := by omega
  have i0 : (0 : Int) ≤ (i : Int) := by omega
  clear hp hok2 hl4 hsp hD hl hl2 hl3 hn hok hI hw1 hz u1 hbase hS
  go_enter Tryz.func102, Tryz.ntmps102
  go_wp2_with fail
  refine HP.out.mono ?_
  rintro e w2 ⟨vd2, vb2, rfl, hI2, hf2, ho2, ht2⟩
  obtain ⟨pb, capb, rfl⟩ := hI2.bad.slice
  have c21 : w2.cell? ⟨b, o + 1, none⟩ = some (.slice pb D.bad.length capb) := by rw [hI2.box.cell, hI2.d1]
  obtain ⟨hok, hlb, hsp, u1, hI, hbase⟩ := HA.out
  obtain ⟨C, hC⟩ : ∃ C : Nat, cnt D.bad i = C := ⟨_, rfl⟩
  have hCl : C ≤ D.bad.length := by rw [← hC]; exact cnt_le _ _
  have hs := search_call base (.slice pb D.bad.length capb) D.bad i w2 hI2.bad hok.rise (by omega)
  rw [hC] at hs
  have HI2 : Hid (InBox w2 b o ((cs.setIfInBounds o vd2).setIfInBounds (o + 1) (.slice pb D.bad.length capb)) base vd2 (.slice pb D.bad.length capb) D ∧ C ≤ D.bad.length ∧ cnt D.bad i = C ∧ ob (Value.slice pb D.bad.length capb) = ob vb ∧ Touch w1 w2 (b :: ob vd ++ ob vb) ∧ (∀ k ∈ ob vd2, k ∈ ob vd ∨ w1.heap.size ≤ k)) := ⟨hI2, hCl, hC, ho2, ht2, hf2⟩
  clear hI2 hf2 ho2 ht2 hok hlb hsp u1 hI hbase hC hCl
  go_wp2_with (go_at_call 141; refine hs.mono ?_; rintro e w4 ⟨rfl, qq, rfl⟩)
  obtain ⟨hI2, hCl, hC, ho2, ht2, hf2⟩ := HI2.out
  obtain ⟨hok, hlb, hsp, u1, hI, hbase⟩ := HA.out
  have uA : Up w2 ((w2.drewN qq).alloc (.cells #[.int .i64 (i : Int)] 3)) := (up_drewN w2 qq).trans (Up.alloc _ _)
  have hIA := hI2.up uA
  have hz2 : (w2.drewN qq).heap.size = w2.heap.size := rfl
  have hsz2 : w.heap.size ≤ w2.heap.size := Nat.le_trans u1.size ht2.size
  have hi := insert_any base (.slice pb D.bad.length capb) D.bad C i (w2.drewN qq).heap.size ((w2.drewN qq).alloc (.cells #[.int .i64 (i : Int)] 3)) hIA.bad hCl (by omega) (by simp; omega) (heap_alloc_new _ _)
    (fun hm => by have := hI2.lt _ (List.mem_append_right _ hm); omega)
  clear hI2 hCl hC ho2 ht2 hf2 hok hlb hsp u1 hI hbase hIA uA
  refine hi.mono ?_
  rintro e w5 ⟨v5, rfl, o5, hf5, t5⟩
  obtain ⟨p5, cap5, rfl⟩ := o5.slice
  obtain ⟨hI2, hCl, hC, ho2, ht2, hf2⟩ := HI2.out
  have uA : Up w2 ((w2.drewN qq).alloc (.cells #[.int .i64 (i : Int)] 3)) := (up_drewN w2 qq).trans (Up.alloc _ _)
  have hIA := hI2.up uA
  have nd2 := hI2.nd
  rw [List.cons_append, List.nodup_cons] at nd2
  have bx5 : Box w5 b ((cs.setIfInBounds o vd2).setIfInBounds (o + 1) (.slice pb D.bad.length capb)) := t5.box hIA.box (fun hm => nd2.1 (List.mem_append_right _ hm))
  have c51 : w5.cell? ⟨b, o + 1, none⟩ = some (.slice pb D.bad.length capb) := by rw [bx5.cell, hI2.d1]
  have f51 := bx5.frozen (o + 1)
  have hd5 : OwnB w5 base vd2 D.data := Touch.row hIA.dat t5 (fun k hk hm => by
    have := nd2.2
    rw [List.nodup_append] at this
    exact this.2.2 k (mem_ob.2 hk) k hm rfl)
  have H5 : Hid (Box w5 b ((cs.setIfInBounds o vd2).setIfInBounds (o + 1) (.slice pb D.bad.length capb)) ∧ OwnB w5 base vd2 D.data ∧ OwnN w5 base (.slice p5 (D.bad.take C ++ i :: D.bad.drop C).length cap5) (D.bad.take C ++ i :: D.bad.drop C) ∧ (∀ k ∈ ob (Value.slice p5 (D.bad.take C ++ i :: D.bad.drop C).length cap5), k ∈ ob (Value.slice pb D.bad.length capb) ∨ ((w2.drewN qq).alloc (.cells #[.int .i64 (i : Int)] 3)).heap.size ≤ k) ∧ Touch ((w2.drewN qq).alloc (.cells #[.int .i64 (i : Int)] 3)) w5 (ob (Value.slice pb D.bad.length capb))) := ⟨bx5, hd5, o5, hf5, t5⟩
  obtain ⟨L, hL⟩ : ∃ L, (D.bad.take C ++ i :: D.bad.drop C).length = L := ⟨_, rfl⟩
  rw [hL] at H5 ⊢
  clear hL
  clear hI2 hCl hC ho2 ht2 hf2 hIA uA nd2 bx5 hd5 o5 hf5 t5 hi hs hz2 hsz2
  go_wp2
  go_end0
  obtain ⟨bx5, hd5, o5, hf5, t5⟩ := H5.out
  obtain ⟨hI2, hCl, hC, ho2, ht2, hf2⟩ := HI2.out
  obtain ⟨hok, hlb, hsp, u1, hI, hbase⟩ := HA.out
  have uA : Up w2 ((w2.drewN qq).alloc (.cells #[.int .i64 (i : Int)] 3)) := (up_drewN w2 qq).trans (Up.alloc _ _)
  have hsA : ((w2.drewN qq).alloc (.cells #[.int .i64 (i : Int)] 3)).heap.size = w2.heap.size + 1 := by simp [World.drewN]
  rw [hsA] at hf5
  have nd2 := hI2.nd
  rw [List.cons_append, List.nodup_cons] at nd2
  have hfv : ∀ k ∈ ob (Value.slice p5 L cap5), k ∈ ob vb ∨ w2.heap.size ≤ k := fun k hk => by
    rcases hf5 k hk with h | h
    · exact .inl (ho2 ▸ h)
    · exact .inr (by omega)
  have hsz : w.heap.size ≤ w2.heap.size := Nat.le_trans u1.size ht2.size
  have hbv : b ∉ ob (Value.slice p5 L cap5) := fun hm => by
    rcases hf5 b hm with h | h
    · exact nd2.1 (List.mem_append_right _ h)
    · have := hI2.box.lt; omega
  have t56 : Touch w5 (w5.setCell ⟨b, o + 1, none⟩ (.slice p5 L cap5)) [b] := (Touch.refl _ _).setCell (.inl (by simp)) _ _
  have hpi : putIn D.bad i = D.bad.take C ++ i :: D.bad.drop C := by unfold putIn; rw [hC]
  refine ⟨vd2, .slice p5 L cap5, rfl, ⟨?_, ?_, ?_, ?_, ?_, ?_⟩, fun k hk => ?_, fun k hk => ?_, ?_⟩
  · have hx := bx5.set (o + 1) (.slice p5 L cap5)
    rw [Array.setIfInBounds_setIfInBounds] at hx
    exact hx
  · have h0 := hI2.d0
    rw [Array.getElem?_setIfInBounds_ne (by omega)] at h0 ⊢
    exact h0
  · have hlt : o + 1 < ((cs.setIfInBounds o vd2).setIfInBounds (o + 1) (.slice pb D.bad.length capb)).size := (Array.getElem?_eq_some_iff.1 hI2.d1).1
    rw [Array.size_setIfInBounds] at hlt
    rw [Array.getElem?_setIfInBounds_self_of_lt hlt]
  · rw [hsp]
    exact Touch.row hd5 t56 (fun k hk => by simp; rintro rfl; exact nd2.1 (List.mem_append_left _ (mem_ob.2 hk)))
  · rw [hsp]
    show OwnN _ base _ (putIn D.bad i)
    rw [hpi]
    exact Touch.row o5 t56 (fun k hk => by simp; rintro rfl; exact hbv (mem_ob.2 hk))
  · rw [List.cons_append, List.nodup_cons, List.nodup_append]
    rw [List.nodup_append] at nd2
    refine ⟨fun hm => ?_, nd2.2.1, ob_nodup _, fun x hx y hy e => ?_⟩
    · rcases List.mem_append.1 hm with h | h
      · exact nd2.1 (List.mem_append_left _ h)
      · exact hbv h
    · subst e
      rcases hf5 x hy with h | h
      · exact nd2.2.2.2 x hx x h rfl
      · have := (World.ownsRow.lt hI2.dat x (mem_ob.1 hx)).2; omega
  · rcases hf2 k hk with h | h
    · exact .inl h
    · exact .inr (Nat.le_trans u1.size h)
  · rcases hfv k hk with h | h
    · exact .inl h
    · exact .inr (by omega)
  · have tA : Touch w w2 (b :: ob vd ++ ob vb) := Touch.trans (Touch.of_up u1 _) ht2 (fun k hk => .inl hk)
    have tB : Touch w w5 (b :: ob vd ++ ob vb) := Touch.trans tA (Touch.trans (Touch.of_up uA _) t5 (fun k hk => .inl hk)) (fun k hk => by rw [ho2] at hk; exact .inl (by simp [hk]))
    exact Touch.trans tB t56 (fun k hk => .inl (by simp at hk; simp [hk]))

end Go.Proofs.YtkfjkfpodkbkaaaGreatDoor
