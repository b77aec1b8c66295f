/- block: the reference's inside. -/
import Derived.Test.YtoljalolfdnghaaDoorBkRefA
import Derived.Test.YtoljalolfdnghaaDoorBkAwake
import Derived.Test.YtoljalolfdnghaaDoorBkTake
set_option linter.unusedVariables false
set_option linter.unusedSimpArgs false
namespace Go.Proofs.YtoljalolfdnghaaDoor
open Go Go.RowKit

theorem recs_built (w : World) : Recs (w.alloc (.cells #[] 28)) w.heap.size (.slice (some ⟨w.heap.size, 0, none⟩) 0 0) [] [] :=
  ⟨⟨by simp, .inr ⟨w.heap.size, 0, _, rfl, Nat.le_refl _, heap_alloc_new _ _, Nat.le_refl _, by unfold maxLen; omega, by simp, by simp⟩⟩, rfl, fun i h => by simp at h, by simp⟩

set_option maxRecDepth 20000 in
set_option maxHeartbeats 1600000 in
theorem rinside_any (v : Value) (b : List UInt8) (n : Nat) (w : World) (hv : Sl 0 w v b) (hl : b.length = 512) (hn : (n : Int) ≤ 65535) :
    Calls Tryd.prog 46 #[v, .int .i64 (n : Int)] w fun e w' => Takes w w' e (parseR n (b.drop 18)) ∧ Up w w' := by
  obtain ⟨R, hR⟩ : ∃ R, parseR n (b.drop 18) = R := ⟨_, rfl⟩
  rw [hR]
  have H0 : Hid (R = (parseR (n - 0) (b.drop 18)).map ([] ++ ·)) := by
    show _ = _
    rw [Nat.sub_zero, hR]; cases R <;> simp
  obtain ⟨av, cv, rfl⟩ := hv.slice
  rw [hl] at hv ⊢
  have HB : Hid (b.length = 512 ∧ Sl 0 w (.slice av 512 cv) b) := ⟨hl, hv⟩
  have hn0 : (0 : Int) ≤ (n : Int) := by omega
  have HR0 : Hid (Recs (w.alloc (.cells #[] 28)) w.heap.size (.slice (some ⟨w.heap.size, 0, none⟩) 0 0) [] [] ∧ Up w (w.alloc (.cells #[] 28))) := ⟨recs_built w, Up.alloc _ _⟩
  clear hR hv hl
  go_enter Tryd.func46, Tryd.ntmps46
  go_wp2
  go_loopg [6, 7, 8] n (fun g vo at_ i wr => ∃ (k p : Nat) (M : List Rec) (vs : List Value), k ≤ n ∧ g = n - k ∧ i = .int .i64 k ∧ at_ = .int .i64 (p : Int) ∧ (p : Int) ≤ 512 ∧ Hid (Recs wr w.heap.size vo M vs ∧ Up w wr ∧ R = (parseR (n - k) (b.drop p)).map (M ++ ·) ∧ M.length = k))
  case atStart => exact ⟨0, 18, [], [], by omega, rfl, rfl, rfl, by omega, HR0.out.1, HR0.out.2, H0.out, rfl⟩
  case round =>
    clear H0 HR0
    obtain ⟨k, p, M, vs, hk, rfl, rfl, rfl, hp, HT⟩ := hrel
    have hp0 : (0 : Int) ≤ (p : Int) := by omega
    obtain ⟨w5, hw5⟩ : ∃ w5, w5 = wr := ⟨_, rfl⟩
    subst hw5
    by_cases hlt : k < n
    · have Hlt : Hid (k < n) := hlt
      have hkk : n - k = (n - (k + 1)) + 1 := by omega
      have hdl : (b.drop p).length = 512 - p := by rw [List.length_drop, HB.out.1]
      by_cases h2 : (512 : Int) < (p : Int) + 2
      · have hr : R = none := by
          rw [HT.out.2.2.1, hkk, parseR, if_neg (by rw [hdl]; omega)]; rfl
        subst hr
        have hfin := HT.out.2.1
        clear HT hkk hdl
        go_wp2
        go_ret2
        exact ⟨rfl, hfin⟩
      · have hnum := rNumber_any 0 _ b p 2 w5 (HB.out.2.up HT.out.2.1) (by rw [HB.out.1]; omega) (by rw [HB.out.1]; omega) (by omega)
        obtain ⟨m, hm⟩ : ∃ m, lb ((b.drop p).take 2) = m := ⟨_, rfl⟩
        rw [hm] at hnum
        have hm16 : m < 65536 := by
          have := lb_lt ((b.drop p).take 2)
          rw [List.length_take, hdl, Nat.min_eq_left (by omega), hm] at this
          simpa using this
        have hmi : (m : Int) < 65536 := by omega
        have hm0 : (0 : Int) ≤ (m : Int) := by omega
        have hp2 : (p : Int) + 2 ≤ 512 := by omega
        by_cases hbad : m ≤ 200 ∧ p + 2 + m ≤ 512
        · have hpar : R = (parseR (n - (k + 1)) (b.drop (p + 2 + m))).map ((M ++ [(b.drop (p + 2)).take m]) ++ ·) := by
            rw [HT.out.2.2.1, hkk, parseR, hm, if_pos ⟨by rw [hdl]; omega, hbad.1, by rw [hdl]; omega⟩, Option.map_map, List.drop_drop, List.drop_drop]
            rw [show p + (2 + m) = p + 2 + m by omega]
            congr 1
            funext x
            simp
          have hrl : ((b.drop (p + 2)).take m).length = m := by rw [List.length_take, List.length_drop, HB.out.1]; omega
          have hget : ∀ t, t < m → ((b.drop (p + 2)).take m)[t]? = b[p + 2 + t]? := by
            intro t h
            rw [List.getElem?_take, if_pos h, List.getElem?_drop]
          obtain ⟨r, hr⟩ : ∃ r, (b.drop (p + 2)).take m = r := ⟨_, rfl⟩
          rw [hr] at hpar hrl hget
          have HG : Hid (R = (parseR (n - (k + 1)) (b.drop (p + 2 + m))).map ((M ++ [r]) ++ ·) ∧ r.length = m ∧ p + 2 + m ≤ 512) := ⟨hpar, hrl, hbad.2⟩
          have HGet := show Hid _ from hget
          have hm200 : (m : Int) ≤ 200 := by omega
          have hend : (p : Int) + 2 + (m : Int) ≤ 512 := by omega
          have H1 : Hid (Own (w5.alloc (.cells #[] 5)) 5 w5.heap.size (.slice (some ⟨w5.heap.size, 0, none⟩) 0 0) (r.take 0) ∧ Up w5 (w5.alloc (.cells #[] 5))) := ⟨own_built w5 [] (by simp), Up.alloc _ _⟩
          clear hpar hrl hget hr hm hdl hkk hm16 h2 hbad
          have hp3 : ¬ (512 : Int) < (p : Int) + 2 := by omega
          have Hp2 := show Hid _ from hp2
          have Hend := show Hid _ from hend
          clear hp2 hend
          go_wp2_with fail
          refine hnum.mono ?_
          rintro e w6 ⟨rfl, e6⟩
          obtain rfl : w5 = w6 := e6.symm
          have hend : decide ((512 : Int) < (p : Int) + 2 + (m : Int)) = false := by have := Hend.out; simp; omega
          have hd2 : decide ((200 : Int) < (m : Int)) = false := by simp; omega
          have Hm2 := show Hid _ from hm200
          clear hnum hp3 hm200
          go_wp2
          go_loopg [10, 11] m (fun g sl j wr => ∃ t : Nat, t ≤ m ∧ g = m - t ∧ j = .int .i64 t ∧ Hid (Own wr 5 w5.heap.size sl (r.take t) ∧ Up w5 wr))
          case atStart => exact ⟨0, by omega, rfl, rfl, H1.out⟩
          case round =>
            clear H1
            obtain ⟨t, ht, rfl, rfl, HR⟩ := hrel
            by_cases htm : t < m
            · have Htm : Hid (t < m) := htm
              have hidx : p + 2 + t < b.length := by rw [HB.out.1]; have := HG.out.2.2; omega
              have hsl := HB.out.2.up (HT.out.2.1.trans HR.out.2)
              obtain ⟨a9, c9, e9, _, _, hx9⟩ := hsl
              obtain ⟨b9, o9, rfl, _, hat9⟩ := hx9 (by rintro rfl; simp at hidx)
              simp only [Value.slice.injEq] at e9
              obtain ⟨rfl, e9a, e9b⟩ := e9
              clear e9a e9b
              have hcc := hat9 _ hidx
              have htr : t < r.length := by rw [HG.out.2.1]; exact htm
              have htk := List.take_succ_eq_append_getElem htr
              have hgt := HGet.out t htm
              rw [List.getElem?_eq_getElem htr, List.getElem?_eq_getElem hidx] at hgt
              rw [Option.some.inj hgt] at htk
              obtain ⟨c, hc⟩ : ∃ c, b[p + 2 + t]'hidx = c := ⟨_, rfl⟩
              rw [hc] at hcc htk
              have HST2 : Hid (r.take (t + 1) = r.take t ++ [c]) := htk
              simp only [B] at hcc
              have hti : (p : Int) + 2 + (t : Int) < 512 := by have := Hend.out; omega
              have ht0 : (0 : Int) ≤ (t : Int) := by omega
              clear hx9 hat9 htk hgt hc htr hidx
              go_wp2_with (at_builtin; refine wpList_push _ rfl (.tmp 41) (.tmp 48) rfl w5.heap.size _ _ rfl _ rfl HR.out.1 HR.out.2.size (by rw [List.length_take]; omega) c rfl ?_)
              intro v5 w7 o5 b5
              have H5 : Hid (Own w7 5 w5.heap.size v5 (r.take (t + 1)) ∧ Up w5 w7) := ⟨by rw [HST2.out]; simpa only [List.append_assoc] using o5, Below.trans HR.out.2 b5⟩
              clear o5 b5 HR hcc
              go_wp2
              go_roundg (m - (t + 1))
              case measure => have := Htm.out; omega
              case rel => exact ⟨t + 1, Htm.out, rfl, by go_num, H5⟩
            · obtain rfl : t = m := by omega
              clear hend hd2
              have hm200 := Hm2.out
              have hR := HR.out
              rw [List.take_of_length_le (Nat.le_of_eq HG.out.2.1)] at hR
              obtain ⟨a5, c5, rfl⟩ := own_len hR.1
              rw [HG.out.2.1] at hR ⊢
              obtain ⟨w7, hw7⟩ : ∃ w7, w7 = wr := ⟨_, rfl⟩
              subst hw7
              have T3 := HT.out.1.up hR.2
              obtain ⟨ao, co, hvs⟩ := T3.slice
              have hvl : vs.length = k := T3.len.trans HT.out.2.2.2
              clear HR
              go_wp2_with (at_builtin; refine wpList_appV _ rfl (.tmp 50) (.tmp 52) rfl w.heap.size _ vs [.slice a5 t c5] rfl ⟨w7.heap.size, 0, none⟩ 1 rfl ?h1 ?h2 ?h3 ?h4 ?h5 ?_)
              case h1 => exact ownsRow_up T3.row (Up.alloc _ _)
              case h2 =>
                intro j u hj
                match j, hj with
                | 0, hj => simp at hj; subst hj; rw [Addr.add_lit, cell_of_row _ _ _ _ _ _ (heap_alloc_new _ _)]; rfl
              case h3 => intro u hu; simp at hu; subst hu; rfl
              case h4 => have := hR.2.size; have := HT.out.2.1.size; simp; omega
              case h5 => rw [hvl]; simp; omega
              intro v' w' ho' hg'
              have T5 := (T3.up (Up.alloc w7 (.cells #[.slice a5 t c5] 28))).snoc (Own.m hR.1 |>.up (Up.alloc _ _)) HT.out.2.1.size (fun x hx => (HT.out.1.mem hx).2.1) ho' (by rw [hvs]; exact hg')
              have U5 : Up w w' := grown_up ((HT.out.2.1.trans hR.2).trans (Up.alloc w7 (.cells #[.slice a5 t c5] 28))) hg' (fun x hx => (World.ownsRow.lt T3.row x (by rw [hvs]; exact hx)).1)
              have H5 : Hid (Recs w' w.heap.size v' (M ++ [r]) (vs ++ [.slice a5 t c5]) ∧ Up w w' ∧ R = (parseR (n - (k + 1)) (b.drop (p + 2 + t))).map ((M ++ [r]) ++ ·) ∧ (M ++ [r]).length = k + 1) := ⟨T5, U5, HG.out.1, by rw [List.length_append, HT.out.2.2.2]; rfl⟩
              clear T3 T5 U5 hvs ho' hg' hvl hR HT HG HGet
              go_wp2
              go_roundg (n - (k + 1))
              case measure => have := Hlt.out; omega
              case rel => exact ⟨k + 1, p + 2 + t, _, _, Hlt.out, rfl, by go_num, by go_num, Hend.out, H5⟩
        · have hr : R = none := by
            rw [HT.out.2.2.1, hkk, parseR, hm, if_neg (by rw [hdl]; omega)]; rfl
          subst hr
          have hfin := HT.out.2.1
          clear HT hkk hdl hm hm16
          by_cases h200 : (200 : Int) < (m : Int)
          · have hd2 : decide ((200 : Int) < (m : Int)) = true := by simp; omega
            have hp3 : ¬ (512 : Int) < (p : Int) + 2 := by omega
            clear hp2 h2 hbad h200
            go_wp2_with fail
            refine hnum.mono ?_
            rintro e w6 ⟨rfl, e6⟩
            obtain rfl : w5 = w6 := e6.symm
            clear hnum
            go_wp2
            go_ret2
            exact ⟨rfl, hfin⟩
          · have h512 : decide ((512 : Int) < (p : Int) + 2 + (m : Int)) = true := by simp; omega
            have hd2 : decide ((200 : Int) < (m : Int)) = false := by simp; omega
            have hp3 : ¬ (512 : Int) < (p : Int) + 2 := by omega
            clear hp2 h2 hbad h200
            go_wp2_with fail
            refine hnum.mono ?_
            rintro e w6 ⟨rfl, e6⟩
            obtain rfl : w5 = w6 := e6.symm
            clear hnum
            go_wp2
            go_ret2
            exact ⟨rfl, hfin⟩
    · obtain rfl : k = n := by omega
      have HZ : Hid (R = if b.drop p = List.replicate (b.drop p).length 0 then some M else none) := by
        show _ = _
        rw [HT.out.2.2.1, Nat.sub_self, parseR]
        split <;> simp
      have HF : Hid (Recs w5 w.heap.size u6 M vs ∧ Up w w5) := ⟨HT.out.1, HT.out.2.1⟩
      have hpn : p ≤ 512 := by omega
      clear hlt HT hk hp hp0
      go_wp2
      go_loopg [7] (512 - p) (fun g at_ wr => w5 = wr ∧ ∃ q : Nat, q ≤ 512 ∧ g = 512 - q ∧ at_ = .int .i64 (q : Int) ∧ Hid (R = if b.drop q = List.replicate (b.drop q).length 0 then some M else none))
      case atStart => exact ⟨rfl, p, hpn, rfl, rfl, HZ⟩
      case round =>
        clear HZ
        obtain ⟨rfl, q, hq, rfl, rfl, HZ⟩ := hrel
        have hq0 : (0 : Int) ≤ (q : Int) := by omega
        by_cases hlt : q < 512
        · have Hlt : Hid (q < 512) := hlt
          have hqi : (q : Int) < 512 := by omega
          have hqb : q < b.length := by rw [HB.out.1]; exact hlt
          have hsl := HB.out.2.up HF.out.2
          obtain ⟨a9, c9, e9, _, _, hx9⟩ := hsl
          obtain ⟨b9, o9, rfl, _, hat9⟩ := hx9 (by rintro rfl; simp at hqb)
          simp only [Value.slice.injEq] at e9
          obtain ⟨rfl, e9a, e9b⟩ := e9
          clear e9a e9b
          have hcc := hat9 _ hqb
          have hdr := List.drop_eq_getElem_cons hqb
          obtain ⟨c, hc⟩ : ∃ c, b[q]'hqb = c := ⟨_, rfl⟩
          rw [hc] at hcc hdr
          have hz := zeros_cons c (b.drop (q + 1))
          have hZ := HZ.out
          rw [hdr] at hZ
          simp only [hz] at hZ
          simp only [B] at hcc
          clear hx9 hat9 hc hqb hdr hz HZ
          by_cases hc0 : c = 0
          · subst hc0
            have HZ2 : Hid (R = if b.drop (q + 1) = List.replicate (b.drop (q + 1)).length 0 then some M else none) := by
              show _ = _
              rw [hZ]; simp only [true_and]
            clear hZ
            go_wp2
            go_roundg (512 - (q + 1))
            case measure => have := Hlt.out; omega
            case rel => exact ⟨rfl, q + 1, Hlt.out, rfl, by go_num, HZ2⟩
          · have hr : R = none := by rw [hZ, if_neg (fun h => hc0 h.1)]
            subst hr
            have hne : ((c.toNat : Int) == 0) = false := by
              have : c.toNat ≠ 0 := fun h => hc0 (UInt8.toNat_inj.1 h)
              simp only [beq_eq_false_iff_ne]; omega
            have hfin := HF.out.2
            clear hZ hc0 HF
            go_wp2
            go_ret2
            exact ⟨rfl, hfin⟩
        · obtain rfl : q = 512 := by omega
          have hr : R = some M := by
            rw [HZ.out, List.drop_of_length_le (Nat.le_of_eq HB.out.1)]; rfl
          subst hr
          have hF := HF.out
          clear HZ HF hlt
          go_wp2
          go_ret2
          exact ⟨⟨_, _, rfl, hF.1⟩, hF.2⟩
end Go.Proofs.YtoljalolfdnghaaDoor
