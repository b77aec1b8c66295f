/- block: the reference's Scan. -/
import Derived.Test.YtoljalolfdnghaaDoorBkPush
import Derived.Test.YtoljalolfdnghaaDoorBkRefD
set_option linter.unusedVariables false
set_option linter.unusedSimpArgs false
namespace Go.Proofs.YtoljalolfdnghaaDoor
open Go Go.RowKit

/-- How one slice more is told. -/
def Told (w w' : World) (so so' : Value) (xs : List Value) : Prop := (OwnV w' w.heap.size so' xs ∧ Up w w') ∨ (∃ g n cap, so = .slice (some ⟨g, 0, none⟩) n cap ∧ so'.ownBlock = some g ∧ But g w w')
theorem Told.keep {w w' : World} {base base' : Nat} {so so' : Value} {xs : List Value} {M : List Rec} {vs : List Value} (h : Recs w base so M vs) (t : Told w w' so so' xs) {u : Value} {bs : List UInt8} (k : OwnM w base' u bs) : OwnM w' base' u bs := by
  rcases t with ⟨_, hu⟩ | ⟨g, n, cap, rfl, _, hb⟩
  · exact k.up hu
  · exact k.kept fun x hx => hb.block x (k.lt x hx).2 (by intro e; cases e; exact rows_apartM h.row k rfl hx)
theorem Told.apart {w w' : World} {base2 : Nat} {so so' v2 : Value} {xs : List Value} {rs : List Rec} {us : List Value} (t : Told w w' so so' xs) (k : Recs w base2 v2 rs us) (ha : ∀ x, so.ownBlock = some x → v2.ownBlock ≠ some x) : ∀ x, so'.ownBlock = some x → v2.ownBlock ≠ some x := by
  rcases t with ⟨ho, hu⟩ | ⟨g, n, cap, rfl, e, hb⟩
  · intro x hx hv
    have := (World.ownsRow.lt ho x hx).1
    have := (World.ownsRow.lt k.row x hv).2
    omega
  · intro x hx
    rw [e] at hx
    cases hx
    exact ha g rfl
theorem Told.src {w w' : World} {base base2 : Nat} {so so' v2 : Value} {xs : List Value} {M rs : List Rec} {vs us : List Value} (h : Recs w base so M vs) (t : Told w w' so so' xs) (k : Recs w base2 v2 rs us) (ha : ∀ x, so.ownBlock = some x → v2.ownBlock ≠ some x) : Recs w' base2 v2 rs us := by
  refine ⟨?_, k.len, fun i h1 h2 => t.keep h (k.each i h1 h2), k.nd⟩
  rcases t with ⟨_, hu⟩ | ⟨g, n, cap, rfl, e, hb⟩
  · exact ownsRow_up k.row hu
  · exact ownsRow_but k.row hb (ha g rfl)
/-- One record more, that another row holds too. -/
theorem Told.share {w w' : World} {base base2 : Nat} {so so' : Value} {M : List Rec} {vs : List Value} {u : Value} {bs : List UInt8} (h : Recs w base so M vs) (k : OwnM w base2 u bs) (hb : base ≤ base2) (hnew : ∀ x, u.ownBlock = some x → x ∉ vs.filterMap Value.ownBlock)
    (ho : OwnV w' base so' (vs ++ [u])) (t : Told w w' so so' (vs ++ [u])) : Recs w' base so' (M ++ [bs]) (vs ++ [u]) := by
  refine ⟨ho, by simp [h.len], fun i h1 h2 => ?_, ?_⟩
  · by_cases hi : i < vs.length
    · have hi2 : i < M.length := by rw [← h.len]; exact hi
      rw [List.getElem_append_left hi, List.getElem_append_left hi2]
      exact t.keep h (h.each i hi hi2)
    · have e := h.len
      have hi1 : i = vs.length := by simp at h1; omega
      subst hi1
      rw [List.getElem_append_right (by omega), List.getElem_append_right (by omega)]
      simp only [Nat.sub_self, List.getElem_cons_zero, e]
      exact (t.keep h k).low hb
  · rw [List.filterMap_append, List.nodup_append]
    refine ⟨h.nd, ?_, fun x hx y hy e => ?_⟩
    · cases hu : u.ownBlock <;> simp [hu]
    · subst e
      obtain ⟨u', hu, e⟩ := List.mem_filterMap.1 hy
      simp at hu
      subst hu
      exact hnew x e hx

/-- While the records of a sector are handed on. -/
structure HandR (w w5 wr : World) (so v2 : Value) (M rs : List Rec) (vs us : List Value) (t : Nat) : Prop where
  recs : Recs wr w.heap.size so (M ++ rs.take t) (vs ++ us.take t)
  src : Recs wr w5.heap.size v2 rs us
  apart : ∀ x, so.ownBlock = some x → v2.ownBlock ≠ some x
  old : ∀ x ∈ vs.filterMap Value.ownBlock, x < w5.heap.size
  up : Up w wr
  base : w.heap.size ≤ w5.heap.size
theorem HandR.grow {w w5 u u' : World} {so v2 : Value} {M rs : List Rec} {vs us : List Value} {t : Nat} (h : HandR w w5 u so v2 M rs vs us t) (hu : Up u u') : HandR w w5 u' so v2 M rs vs us t :=
  ⟨h.recs.up hu, h.src.up hu, h.apart, h.old, h.up.trans hu, h.base⟩
theorem HandR.more {w w5 u w' : World} {so so' v2 : Value} {M rs : List Rec} {vs us : List Value} {t : Nat} (h : HandR w w5 u so v2 M rs vs us t) (ht : t < us.length) (ht2 : t < rs.length)
    (ho : OwnV w' w.heap.size so' ((vs ++ us.take t) ++ [us[t]])) (tt : Told u w' so so' ((vs ++ us.take t) ++ [us[t]])) : HandR w w5 w' so' v2 M rs vs us (t + 1) := by
  have hus := List.take_succ_eq_append_getElem ht
  have hrs := List.take_succ_eq_append_getElem ht2
  have hnew : ∀ x, us[t].ownBlock = some x → x ∉ (vs ++ us.take t).filterMap Value.ownBlock := by
    intro x hx hm
    rw [List.filterMap_append, List.mem_append] at hm
    rcases hm with hm | hm
    · have := h.old x hm
      have := (h.src.mem (List.mem_filterMap.2 ⟨us[t], List.getElem_mem ht, hx⟩)).1
      omega
    · have hnd := h.src.nd
      rw [← List.take_append_drop (t + 1) us, hus, List.filterMap_append, List.filterMap_append] at hnd
      have h1 := (List.nodup_append.1 hnd).1
      have h2 := (List.nodup_append.1 h1).2.2 x hm x (by simp [hx])
      exact h2 rfl
  have hr := tt.share h.recs (h.src.each t ht ht2) h.base hnew ho
  refine ⟨by rw [hus, hrs, ← List.append_assoc, ← List.append_assoc]; exact hr, tt.src h.recs h.src h.apart, tt.apart h.src h.apart, h.old, ?_, h.base⟩
  rcases tt with ⟨_, hu⟩ | ⟨g, n, cap, rfl, e, hb⟩
  · exact h.up.trans hu
  · exact Below.trans h.up (hb.below ((World.ownsRow.lt h.recs.row g rfl).1) h.up.size)

set_option maxRecDepth 20000 in
set_option maxHeartbeats 3200000 in
theorem rScan_any (v vb : Value) (d : List UInt8) (bad : List Int) (first : Nat) (w : World) (hs : Sl 0 w v d) (hb : SlI w vb bad) (hl : d.length ≤ 1000000000) (hn : bad.length ≤ 140737488355328) (hf : first < 18446744073709551616) :
    Calls Tryd.prog 29 #[v, vb, .int .u64 (first : Int)] w fun e w' => ∃ v' vs, e = .returned (.tuple #[v', .int .i64 ((scanB (badOf bad) (d.length / 512) d 0 first).2 : Nat)]) ∧ Recs w' w.heap.size v' (scanB (badOf bad) (d.length / 512) d 0 first).1 vs ∧ Up w w' := by
  obtain ⟨RES, hRES⟩ : ∃ RES, scanB (badOf bad) (d.length / 512) d 0 first = RES := ⟨_, rfl⟩
  rw [hRES]
  obtain ⟨N, hN⟩ : ∃ N, d.length / 512 = N := ⟨_, rfl⟩
  have HA : Hid (Sl 0 w v d ∧ SlI w vb bad ∧ N = d.length / 512 ∧ d.length ≤ 1000000000) := ⟨hs, hb, hN.symm, hl⟩
  obtain ⟨ao, cap, hv⟩ := hs.slice
  obtain ⟨bo, bc, hvb⟩ : ∃ ao cap, vb = .slice ao bad.length cap := by
    obtain ⟨ao, cap, e, _⟩ := hb
    exact ⟨ao, cap, e⟩
  have hNi : (N : Int) ≤ 2000000 := by omega
  have H0 : Hid (ScanR w (w.alloc (.cells #[] 28)) (.slice (some ⟨w.heap.size, 0, none⟩) 0 0) [] [] 0 ∧ RES = ([] ++ (scanB (badOf bad) (N - 0) (d.drop (512 * 0)) 0 first).1, 0 + (scanB (badOf bad) (N - 0) (d.drop (512 * 0)) 0 first).2) ∧ first < 18446744073709551616) := by
    refine ⟨⟨recs_built w, Up.alloc _ _, by simp⟩, ?_, hf⟩
    rw [← hRES, hN]; simp
  obtain ⟨dl, hdl⟩ : ∃ dl, d.length = dl := ⟨_, rfl⟩
  have Hdl : Hid (d.length = dl) := hdl
  have hdi : (dl : Int) ≤ 1000000000 := by omega
  rw [hdl] at hv
  clear hs hb hRES hN hl hdl
  subst hv hvb
  go_enter Tryd.func29, Tryd.ntmps29
  go_wp2
  go_loopg [8, 9, 10] N (fun g vo gd du wr => ∃ (k due : Nat) (M : List Rec) (vs : List Value), k ≤ N ∧ g = N - k ∧ gd = .int .i64 (k : Int) ∧ du = .int .u64 (due : Int) ∧ Hid (ScanR w wr vo M vs k ∧ RES = (M ++ (scanB (badOf bad) (N - k) (d.drop (512 * k)) k due).1, k + (scanB (badOf bad) (N - k) (d.drop (512 * k)) k due).2) ∧ due < 18446744073709551616))
  case atStart => exact ⟨0, first, [], [], by omega, rfl, rfl, rfl, H0⟩
  case round =>
    clear H0
    obtain ⟨k, due, M, vs, hk, rfl, rfl, rfl, HR⟩ := hrel
    obtain ⟨w5, hw5⟩ : ∃ w5, w5 = wr := ⟨_, rfl⟩
    subst hw5
    have hk0 : (0 : Int) ≤ (k : Int) := by omega
    have hki : (k : Int) ≤ 2000000 := by omega
    by_cases hlt : k < N
    · obtain ⟨hs, hbd, hN, hl⟩ := HA.out
      obtain ⟨hsr, hRES, hdue⟩ := HR.out
      have hlen : 512 * (k + 1) ≤ d.length := by omega
      have hgo : ((k : Int) + 1) * 512 ≤ (dl : Int) := by have := Hdl.out; omega
      obtain ⟨v1, hs1, hcut, _, _⟩ := sl_cut hs (k * 512) ((k + 1) * 512) (by omega) (by omega)
      have e1 : (d.drop (k * 512)).take ((k + 1) * 512 - k * 512) = (d.drop (512 * k)).take 512 := by
        rw [Nat.mul_comm k 512, show (k + 1) * 512 - 512 * k = 512 by omega]
      rw [e1] at hs1
      have hl1 : ((d.drop (512 * k)).take 512).length = 512 := by rw [List.length_take, List.length_drop]; omega
      obtain ⟨a1, c1, rfl⟩ := hs1.slice
      rw [hl1] at hs1 hcut
      rw [show ((k * 512 : Nat) : Int) = (k : Int) * 512 from by omega, show (((k + 1) * 512 : Nat) : Int) = ((k : Int) + 1) * 512 from by omega] at hcut
      have hnam := rnamed_any _ bad k w5 (hbd.up hsr.up) hn (by omega)
      have hdec := rDecode_any _ _ w5 (hs1.up hsr.up)
      have hfuel : N - k = (N - (k + 1)) + 1 := by omega
      have Hlt : Hid (k < N) := hlt
      obtain ⟨av, cv, hvr⟩ := hsr.recs.slice
      have hrec0 := hsr.recs
      have hup0 := hsr.up
      by_cases hbk : badOf bad k = true
      · have hR : RES = (M, k) := by rw [hRES, hfuel, scanB, if_pos (.inr hbk)]; simp
        rw [hbk] at hnam
        subst hR hvr
        clear hRES hbk hfuel hdec hs1 hl1 e1 hlen hN hl hs hbd hsr HR HA
        go_wp2_with fail
        refine hnam.mono ?_
        rintro e w6 ⟨rfl, e6⟩
        obtain rfl : w5 = w6 := e6.symm
        clear hnam
        go_wp2
        go_ret2
        exact ⟨_, rfl, ⟨_, hrec0⟩, hup0⟩
      · have hbf : badOf bad k = false := by simpa using hbk
        rw [hbf] at hnam
        have hcond : ¬ ((d.drop (512 * k)).length < 512 ∨ badOf bad k = true) := by
          rw [hbf, List.length_drop]; simp; omega
        rw [hfuel, scanB, if_neg hcond] at hRES
        cases hd : decB ((d.drop (512 * k)).take 512) with
        | error er =>
          rw [hd] at hdec hRES
          have hR : RES = (M, k) := by rw [hRES]; simp
          subst hR hvr
          clear hRES hd hcond hfuel hs1 hl1 e1 hlen hN hl hs hbd hbk hbf hsr HR HA
          go_wp2_with fail
          refine hnam.mono ?_
          rintro e w6 ⟨rfl, e6⟩
          obtain rfl : w5 = w6 := e6.symm
          clear hnam
          go_wp2_with fail
          refine hdec.mono ?_
          rintro e w2 ⟨hT, u2⟩
          clear hdec
          have hrec := hrec0.up u2
          have hup := hup0.trans u2
          clear hrec0 hup0
          cases er with
          | short => obtain rfl := hT; go_wp2; go_ret2; exact ⟨_, rfl, ⟨_, hrec⟩, hup⟩
          | form => obtain rfl := hT; go_wp2; go_ret2; exact ⟨_, rfl, ⟨_, hrec⟩, hup⟩
          | sum => obtain rfl := hT; go_wp2; go_ret2; exact ⟨_, rfl, ⟨_, hrec⟩, hup⟩
        | ok x =>
          obtain ⟨f, rs⟩ := x
          rw [hd] at hdec hRES
          have hcnt := decB_count hd
          by_cases hfd : f = due
          · subst hfd hvr
            have hRES2 : RES = ((M ++ rs) ++ (scanB (badOf bad) (N - (k + 1)) (d.drop (512 * (k + 1))) (k + 1) (f + rs.length)).1, (k + 1) + (scanB (badOf bad) (N - (k + 1)) (d.drop (512 * (k + 1))) (k + 1) (f + rs.length)).2) := by
              rw [hRES]
              simp only [if_true]
              rw [List.drop_drop, show 512 * k + 512 = 512 * (k + 1) by omega, List.append_assoc]
              congr 1
              omega
            obtain ⟨m, hm⟩ : ∃ m, rs.length = m := ⟨_, rfl⟩
            rw [hm] at hRES2 hcnt
            have HS : Hid (RES = ((M ++ rs) ++ (scanB (badOf bad) (N - (k + 1)) (d.drop (512 * (k + 1))) (k + 1) (f + m)).1, (k + 1) + (scanB (badOf bad) (N - (k + 1)) (d.drop (512 * (k + 1))) (k + 1) (f + m)).2) ∧ rs.length = m ∧ m ≤ 247 ∧ f + m < 18446744073709551616 ∧ M.length ≤ 247 * k ∧ k < N ∧ N ≤ 2000000) := ⟨hRES2, hm, hcnt.2.1, by have := hcnt.2.2; omega, hsr.cnt, hlt, by omega⟩
            have hfm : (f : Int) + (m : Int) ≤ 4611686018427387905 := by have := hcnt.2.2; omega
            have hm0 : (0 : Int) ≤ (m : Int) := by omega
            have hm247 : (m : Int) ≤ 247 := by have := hcnt.2.1; omega
            clear hRES hRES2 hd hcond hfuel hs1 hl1 e1 hlen hN hl hs hbd hbk hbf hcnt HR hm hsr hdue
            go_wp2_with fail
            refine hnam.mono ?_
            rintro e w6 ⟨rfl, e6⟩
            obtain rfl : w5 = w6 := e6.symm
            clear hnam
            go_wp2_with fail
            refine hdec.mono ?_
            rintro e w2 ⟨⟨v2, us, rfl, hk2⟩, u2⟩
            clear hdec
            obtain ⟨a2, c2, rfl⟩ := hk2.slice
            rw [HS.out.2.1] at hk2 ⊢
            have H1 : Hid (HandR w w5 w2 (.slice av M.length cv) (.slice a2 m c2) M rs vs us 0) := by
              refine ⟨by simpa using hrec0.up u2, hk2, fun x hx hv2 => ?_, fun x hx => (hrec0.mem hx).2.1, hup0.trans u2, hup0.size⟩
              have h1 := (World.ownsRow.lt hrec0.row x hx).2
              have h2 := (World.ownsRow.lt hk2.row x hv2).1
              omega
            have hus : us.length = m := hk2.len.trans HS.out.2.1
            have HU : Hid (us.length = m) := hus
            clear hrec0 hup0 u2 hk2 hcut hus
            go_wp2
            go_loopg [8, 15] m (fun g so i wr => ∃ t : Nat, t ≤ m ∧ g = m - t ∧ i = .int .i64 t ∧ Hid (HandR w w5 wr so (.slice a2 m c2) M rs vs us t))
            case atStart => exact ⟨0, by omega, rfl, rfl, H1.out⟩
            case round =>
              clear H1
              obtain ⟨t, ht, rfl, rfl, HH⟩ := hrel
              obtain ⟨w7, hw7⟩ : ∃ w7, w7 = wr := ⟨_, rfl⟩
              subst hw7
              by_cases htm : t < m
              · have Htm : Hid (t < m) := htm
                have htu : t < us.length := by rw [HU.out]; exact htm
                have htr : t < rs.length := by rw [HS.out.2.1]; exact htm
                obtain ⟨g2, cp2, e2, hc2⟩ := HH.out.src.row.cell t htu
                rw [HU.out] at e2
                simp only [Value.slice.injEq] at e2
                obtain ⟨rfl, e2a, rfl⟩ := e2
                clear e2a
                have hone := HH.out.src.one us[t] (List.getElem_mem htu)
                obtain ⟨ae, ce, he⟩ := ((HH.out.src.each t htu htr).sl).slice
                obtain ⟨y, hy⟩ : ∃ y, us[t]'htu = y := ⟨_, rfl⟩
                have Hy : Hid (us[t]? = some y) := by show _ = _; rw [List.getElem?_eq_getElem htu, hy]
                rw [hy] at hc2 hone he
                obtain ⟨mr, hmr⟩ : ∃ mr, (rs[t]'htr).length = mr := ⟨_, rfl⟩
                rw [hmr] at he
                subst he
                have hbound : (vs ++ us.take t).length ≤ 1000000000 := by
                  have := HH.out.recs.len
                  rw [this, List.length_append, List.length_take]
                  have := HS.out; omega
                clear htu htr hy hmr
                go_wp2_with (at_builtin; refine wpList_pushVW _ rfl (.tmp 57) (.tmp 62) rfl w.heap.size _ (vs ++ us.take t) rfl rfl HH.out.recs.row HH.out.up.size hbound _ hone ?_)
                intro v' w' ho' hw'
                have htu : t < us.length := by rw [HU.out]; exact Htm.out
                have htr : t < rs.length := by rw [HS.out.2.1]; exact Htm.out
                rw [← List.append_assoc] at ho' hw'
                have tt : Told w7 w' u8 v' ((vs ++ us.take t) ++ [.slice ae mr ce]) := by
                  rcases hw' with h | ⟨g, cap, e1, e2, hb⟩
                  · exact .inl h
                  · exact .inr ⟨g, _, cap, e1, by rw [e2]; rfl, hb⟩
                have hyy : us[t]'htu = .slice ae mr ce := by
                  have := Hy.out
                  rw [List.getElem?_eq_getElem htu] at this
                  exact Option.some.inj this
                rw [← hyy] at ho' tt
                have H5 : Hid (HandR w w5 w' v' (.slice (some ⟨g2, 0, none⟩) m c2) M rs vs us (t + 1)) := HH.out.more htu htr ho' tt
                clear ho' hw' tt HH hyy htu htr Hy hone hc2 hbound
                go_wp2
                go_roundg (m - (t + 1))
                case measure => have := Htm.out; omega
                case rel => exact ⟨t + 1, Htm.out, rfl, by go_num, H5⟩
              · obtain rfl : t = m := by omega
                have hsr : ScanR w w7 u8 (M ++ rs) (vs ++ us) (k + 1) := by
                  have h1 := HH.out.recs
                  rw [List.take_of_length_le (Nat.le_of_eq HS.out.2.1), List.take_of_length_le (Nat.le_of_eq HU.out)] at h1
                  exact ⟨h1, HH.out.up, by rw [List.length_append]; have := HS.out; omega⟩
                have H6 : Hid (ScanR w w7 u8 (M ++ rs) (vs ++ us) (k + 1) ∧ RES = ((M ++ rs) ++ (scanB (badOf bad) (N - (k + 1)) (d.drop (512 * (k + 1))) (k + 1) (f + t)).1, (k + 1) + (scanB (badOf bad) (N - (k + 1)) (d.drop (512 * (k + 1))) (k + 1) (f + t)).2) ∧ f + t < 18446744073709551616) := ⟨hsr, HS.out.1, HS.out.2.2.2.1⟩
                clear hsr HH HS HU
                go_wp2
                go_roundg (N - (k + 1))
                case measure => have := Hlt.out; omega
                case rel => exact ⟨k + 1, f + t, _, _, Hlt.out, rfl, by go_num, by go_num, H6⟩
          · have hR : RES = (M, k) := by rw [hRES]; simp only [if_neg hfd]; simp
            subst hR hvr
            have hne : ((f : Int) != (due : Int)) = true := by simp only [bne_iff_ne, ne_eq]; omega
            clear hRES hd hcond hfuel hs1 hl1 e1 hlen hN hl hs hbd hbk hbf hcnt hfd hsr HR HA
            go_wp2_with fail
            refine hnam.mono ?_
            rintro e w6 ⟨rfl, e6⟩
            obtain rfl : w5 = w6 := e6.symm
            clear hnam
            go_wp2_with fail
            refine hdec.mono ?_
            rintro e w2 ⟨⟨v2, us, rfl, hk2⟩, u2⟩
            clear hdec
            have hrec := hrec0.up u2
            have hup := hup0.trans u2
            clear hrec0 hup0 hk2
            go_wp2
            go_ret2
            exact ⟨_, rfl, ⟨_, hrec⟩, hup⟩
    · obtain rfl : k = N := by omega
      obtain ⟨hsr, hRES, hdue⟩ := HR.out
      obtain ⟨hs, hbd, hN, hl⟩ := HA.out
      have hR : RES = (M, k) := by
        rw [hRES, Nat.sub_self]; simp [scanB]
      subst hR
      have hgo : ¬ ((k : Int) + 1) * 512 ≤ (dl : Int) := by have := Hdl.out; omega
      have hrec := hsr.recs
      have hup := hsr.up
      obtain ⟨av, cv, rfl⟩ := hsr.recs.slice
      clear hRES hsr HR HA hs hbd hN hl hlt
      go_wp2
      go_ret2
      exact ⟨_, rfl, ⟨_, hrec⟩, hup⟩
end Go.Proofs.YtoljalolfdnghaaDoor
