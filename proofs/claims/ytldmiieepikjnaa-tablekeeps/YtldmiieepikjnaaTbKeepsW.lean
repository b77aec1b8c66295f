/- table: TableKeeps's walk. Own work. -/
import Derived.Test.YtldmiieepikjnaaTbKeeps
import Derived.Test.YtldmiieepikjnaaTbLess
import Derived.Test.YtldmiieepikjnaaTbRef5
set_option linter.unusedVariables false
set_option linter.unusedSimpArgs false
namespace Go.Proofs.Ytldmiieepikjnaa
open Go Go.RowKit

theorem box4k {w : World} {k : Nat} {a b c d : Value} (h : Box w k #[a, b, c, d]) : w.cell? ⟨k, 0, none⟩ = some a ∧ w.cell? ⟨k, 1, none⟩ = some b ∧ w.cell? ⟨k, 2, none⟩ = some c ∧ w.cell? ⟨k, 3, none⟩ = some d := ⟨h.cell 0, h.cell 1, h.cell 2, h.cell 3⟩
/-- The state between two rounds. -/
def Kp (w : World) (t : Nat) (lim : Int) (i : Nat) (ka va : Option Addr) (kc vc m : Nat) (W : World) : Prop :=
  ∃ X Z, KR w t lim X (Z.map (·.1)) (Z.map (·.2)) (.slice ka m kc) (.slice va m vc) W ∧ Rel lim X Z ∧ Z.length = m ∧ m ≤ i ∧ ∀ x ∈ Z, KeyOk x.1

set_option maxRecDepth 20000 in
set_option maxHeartbeats 16000000 in
theorem TableKeeps_any (lim : Int) (sv : Value) (qs : List OpT) (w : World) (hs : OpsT w sv qs) (hn : qs.length ≤ 3518437208780) (hk : ∀ q ∈ qs, KeyOk q.key) :
    Calls Try.prog 6 #[.int .i64 lim, sv] w fun e w' => e = .returned (.bool true) ∧ Up w w' := by
  have qa := awake_any w
  obtain ⟨ao, cap, rfl, hx⟩ := hs
  have HQ : Hid (∀ i (h : i < qs.length) {w' : World}, Up w w' → ∃ b o, ao = some ⟨b, o, none⟩ ∧ OpTAt w' b (o + i * 4) qs[i] ∧ KeyOk qs[i].key) := fun i h {w'} u => by
    obtain ⟨b, o, rfl, h1⟩ := hx (by rintro rfl; simp at h)
    exact ⟨b, o, rfl, (h1 i h).up u, hk _ (List.getElem_mem h)⟩
  obtain ⟨N, hN⟩ : ∃ N, qs.length = N := ⟨_, rfl⟩
  have HN : Hid (qs.length = N) := hN
  rw [hN] at hn ⊢
  clear hx hk hN
  have hNb : (N : Int) ≤ 3518437208780 := by omega
  go_enter Try.func6, Try.ntmps6
  go_wp2_with fail
  refine qa.mono ?_
  clear qa
  rintro e w1 ⟨rfl, u1⟩
  go_wp2_with fail
  refine (NewI_any lim w1).mono ?_
  rintro e w2 ⟨rfl, t1, u2⟩
  have E0 : Hid (Kp w w1.heap.size lim 0 none none 0 0 0 w2) := ⟨[], [], ⟨t1, World.ownsRow_nil _ _ _ _, World.ownsRow_nil _ _ _ _, u1.trans u2, u1.size⟩, Rel.nil lim, rfl, Nat.le_refl _, fun x hx => by cases hx⟩
  clear t1 u1 u2
  generalize w1.heap.size = t at E0 ⊢
  go_wp2_with fail
  go_loopg [6, 7, 8] N (fun g kv vv s wr => ∃ (i : Nat) (ka va : Option Addr) (kc vc m : Nat), kv = .slice ka m kc ∧ vv = .slice va m vc ∧ s = .int .i64 (i : Int) ∧ g + i = N ∧ Hid (Kp w t lim i ka va kc vc m wr))
  case atStart => exact ⟨0, none, none, 0, 0, 0, rfl, rfl, rfl, rfl, E0⟩
  case round =>
    obtain ⟨i, ka, va, kc, vc, m, rfl, rfl, rfl, hgi, hE⟩ := hrel
    clear E0
    by_cases hlt : i < N
    · obtain ⟨X, Z, hR0, hRel, hm, hmi, hok⟩ := hE.out
      obtain ⟨gb, o, rfl, hop, hkey⟩ := HQ.out i (by rw [HN.out]; exact hlt) hR0.2.2.2.1
      obtain ⟨q, hq⟩ : ∃ q, (qs[i]'(by rw [HN.out]; exact hlt)) = q := ⟨_, rfl⟩
      rw [hq] at hop hkey
      clear hq
      obtain ⟨kind, on, key, val⟩ := q
      obtain ⟨c0, c1, c2, c3⟩ := hop
      dsimp only at c0 c1 c2 c3 hkey
      have hiN : (i : Int) < (N : Int) := by omega
      have hw : IntKind.i64.wrap ((i : Int) + 1) = ((i + 1 : Nat) : Int) := by rw [IntKind.wrap_i64]; omega
      have HB : Hid (gk + i = N ∧ i < N ∧ N ≤ 3518437208780 ∧ m ≤ i) := ⟨hgi, hlt, hn, hmi⟩
      have hmb : (m : Int) ≤ 3518437208780 := by omega
      clear hgi hlt hn hmi
      have bO : Box (wr.alloc (.cells #[.int .i64 kind, .int .i64 on, .string key, .int .i64 val] 31)) wr.heap.size #[.int .i64 kind, .int .i64 on, .string key, .int .i64 val] := Box.new _ _ _
      have hR : KR w t lim X (Z.map (·.1)) (Z.map (·.2)) (.slice ka m kc) (.slice va m vc) (wr.alloc (.cells #[.int .i64 kind, .int .i64 on, .string key, .int .i64 val] 31)) := hR0.up (Up.alloc _ _)
      have hGt : wr.heap.size ≠ t := by have := hR0.1.lt; omega
      have hGk : wr.heap.size ∉ ob (.slice ka m kc) := fun hm => by
        obtain ⟨_, cs, hc⟩ := row_type hR0.2.1 _ hm
        have := (Array.getElem?_eq_some_iff.1 hc).1
        omega
      clear hE hR0
      go_wp2_with fail
      clear c0 c1 c2 c3
      generalize wr.alloc (.cells #[.int .i64 kind, .int .i64 on, .string key, .int .i64 val] 31) = W1 at bO hR ⊢
      generalize wr.heap.size = G at bO hGt hGk ⊢
      have HK : Hid (∀ j (h : j < Z.length) {w' : World}, Up W1 w' → ∃ g, ka = some ⟨g, 0, none⟩ ∧ w'.cell? ⟨g, j, none⟩ = some (.string Z[j].1)) := fun j h {w'} u => by
        obtain ⟨g, hg, _, _, hc⟩ := (hR.up u).cellsK hm (by omega)
        exact ⟨g, hg, (hc j h).1⟩
      have HO : Hid (∀ {w' : World}, Up W1 w' → w'.cell? ⟨G, 2, none⟩ = some (.string key)) := fun u => (bO.up u).cell 2
      have HH : Hid (KR w t lim X (Z.map (·.1)) (Z.map (·.2)) (.slice ka m kc) (.slice va m vc) W1 ∧ Rel lim X Z ∧ Z.length = m ∧ Box W1 G #[.int .i64 kind, .int .i64 on, .string key, .int .i64 val] ∧ G ≠ t ∧ G ∉ ob (.slice ka m kc) ∧ KeyOk key ∧ ∀ x ∈ Z, KeyOk x.1) := ⟨hR, hRel, hm, bO, hGt, hGk, hkey, hok⟩
      have HM : Hid (Z.length = m) := hm
      clear hR hRel hm bO hGt hGk hkey hok
      go_loopg [10] m (fun g s wx => Up W1 wx ∧ ∃ j : Nat, s = .int .i64 (j : Int) ∧ Hid (g + j = m ∧ ∀ l (h : l < Z.length), l < j → Z[l].1 ≠ key))
      case atStart => exact ⟨Up.refl _, 0, rfl, rfl, fun l _ h => by omega⟩
      case round =>
        obtain ⟨hu, j, rfl, hH⟩ := hrel
        by_cases hjm : j < m
        · obtain ⟨g, rfl, cK⟩ := HK.out j (by rw [HM.out]; exact hjm) hu
          have cO := HO.out hu
          obtain ⟨kk, hkk⟩ : ∃ kk, (Z[j]'(by rw [HM.out]; exact hjm)).1 = kk := ⟨_, rfl⟩
          rw [hkk] at cK
          have hjm' : (j : Int) < (m : Int) := by omega
          have hw5 : IntKind.i64.wrap ((j : Int) + 1) = ((j + 1 : Nat) : Int) := by rw [IntKind.wrap_i64]; omega
          have HJ : Hid (gk + j = m ∧ j < m) := ⟨hH.out.1, hjm⟩
          by_cases he : kk = key
          · obtain rfl : key = kk := he.symm
            clear HJ he
            go_wp2
            go_quiet (fail)
            clear cK cO
            have u2 := hu.trans (up_drewN wr nq)
            generalize wr.drewN nq = w0 at u2 ⊢
            obtain ⟨hR1, hRel, hm, bO1, hGt, hGk, hkey, hok⟩ := HH.out
            have hR := hR1.up u2
            have bO := bO1.up u2
            obtain ⟨o0, o1, o2, o3⟩ := box4k bO
            have hX : X.length ≤ 4000000000000 := by have := hRel.1.length_eq; have := HB.out; omega
            have hjZ : j < Z.length := by omega
            have hkk2 : (Z[j]'hjZ).1 = key := hkk
            clear hkk
            obtain ⟨A, B, u, hZ, hA⟩ := split_at Z j hjZ key hkk2
            have hAB : A.length + B.length + 1 = m := by rw [← hm, hZ]; simp; omega
            have hZj : Z[j].2 = u := by subst hZ; subst hA; simp
            have hRelA : Rel lim X (A ++ (key, u) :: B) := by rw [← hZ]; exact hRel
            clear HK HO HM HH hu hH hR1 bO1 u2 hw5
            by_cases hk1 : kind = 1
            · subst hk1
              have kP := PutK hR key val hkey hX
              obtain ⟨hT, hRel'⟩ := hRelA.putHere val
              rw [hT] at kP
              clear hT hRelA
              go_wp2_with fail
              refine kP.mono ?_
              clear kP o0 o1 o2 o3
              rintro e w3 ⟨rfl, hR3, t3⟩
              obtain ⟨_, _, _, o3⟩ := box4k (Touch.box bO t3 (by simpa using hGt))
              obtain ⟨g2, rfl, hvc, hg2, hcv⟩ := hR3.cellsV hm (by omega)
              obtain ⟨cv, fv⟩ := hcv j hjZ
              have hR' := hR3.setV j val
              have e1 : Z.map (·.1) = (A ++ (key, val) :: B).map (·.1) := by rw [hZ]; simp
              have e2 : (Z.map (·.2)).set j val = (A ++ (key, val) :: B).map (·.2) := by rw [hZ]; subst hA; simp [List.set_append]
              rw [e1, e2] at hR'
              have hm' : (A ++ (key, val) :: B).length = m := by simp; omega
              have hok' := okA val (hZ ▸ hok)
              clear hR3 t3 bO hR hcv e1 e2 hZ hA hZj hAB hkk2 hRel hX hkey
              have kL := LenK hR' hRel' hm'
              have hlim := hRel'.2.2
              rw [hRel'.1.length_eq, hm'] at hlim
              have FIN : Hid (Kp w t lim (i + 1) _ _ _ _ m _) := ⟨_, _, hR', hRel', hm', by have := HB.out; omega, hok'⟩
              clear hR' hRel' hm'
              go_wp2_with fail
              refine kL.mono ?_
              clear kL
              rintro e wl ⟨rfl, rfl⟩
              have h0 : 0 < m := by omega
              have hi0 : (m : Int) > 0 := by omega
              have hi1 : ¬ ((m : Int) > lim) := by omega
              clear h0 hlim
              go_wp2
              go_roundg (N - (i + 1))
              case measure => have := HB.out; omega
              case rel => exact ⟨i + 1, _, _, _, _, _, rfl, rfl, by simp, by have := HB.out; omega, FIN.out⟩
            have hb1 : (kind == 1) = false := by simpa using hk1
            clear hk1
            by_cases hk3 : kind = 3
            · subst hk3
              have kD := DelK hR key hX
              rw [hRelA.here] at kD
              go_wp2_with fail
              refine kD.mono ?_
              clear kD o0 o1 o2 o3
              rintro e w3 ⟨rfl, hR3⟩
              obtain ⟨p, hp⟩ : ∃ p, m = p + 1 := ⟨m - 1, by omega⟩
              have hpi : (p : Int) < (m : Int) := by omega
              have hp0 : ¬ ((p : Int) < 0) := by omega
              have hw6 : IntKind.i64.wrap ((m : Int) - 1) = (p : Int) := by rw [IntKind.wrap_i64]; omega
              have hpZ : p < Z.length := by omega
              obtain ⟨g1, hg1, hkc, hg1l, hck⟩ := hR3.cellsK hm (by omega)
              simp only [Option.some.injEq, Addr.mk.injEq, and_true] at hg1
              subst hg1
              obtain ⟨ck, fk⟩ := hck j hjZ
              obtain ⟨cp, fp⟩ := hck p hpZ
              have hR4 := hR3.setK j (Z[p]'hpZ).1
              obtain ⟨g2, rfl, hvc, hg2, hcv⟩ := hR4.cellsV hm (by omega)
              obtain ⟨cv, fv⟩ := hcv j hjZ
              obtain ⟨cq, fq⟩ := hcv p hpZ
              have hs1 := sl_popS (g := g) (p := p) (kc := kc) (by omega)
              have hs2 := sl_popV (g := g2) (p := p) (kc := vc) (by omega)
              rw [← hp] at hs1 hs2
              have hR' := (hR4.setV j (Z[p]'hpZ).2).pop hp
              have hRel' := hRelA.delHere
              have e0 : ((A ++ (key, u) :: B).set A.length ((A ++ (key, u) :: B)[A.length + B.length]'(by simp))).take (A.length + B.length) = (Z.set j (Z[p]'hpZ)).take p := by
                subst hZ; subst hA
                have : p = A.length + B.length := by omega
                subst this
                rfl
              rw [e0] at hRel'
              have e1 : ((Z.map (·.1)).set j (Z[p]'hpZ).1).take p = ((Z.set j (Z[p]'hpZ)).take p).map (·.1) := by rw [List.map_take, List.map_set]
              have e2 : ((Z.map (·.2)).set j (Z[p]'hpZ).2).take p = ((Z.set j (Z[p]'hpZ)).take p).map (·.2) := by rw [List.map_take, List.map_set]
              rw [e1, e2] at hR'
              have hm' : ((Z.set j (Z[p]'hpZ)).take p).length = p := by rw [List.length_take, List.length_set]; omega
              obtain ⟨zk, hzk⟩ : ∃ zk, (Z[p]'hpZ).1 = zk := ⟨_, rfl⟩
              obtain ⟨zv, hzv⟩ : ∃ zv, (Z[p]'hpZ).2 = zv := ⟨_, rfl⟩
              rw [hzk] at cp cv cq fv hR'
              rw [hzv] at cq hR'
              have HB2 : Hid (p ≤ i) := by have := HB.out; show p ≤ i; omega
              clear hR3 hR4 bO hR hcv hck e0 e1 e2 hZ hA hZj hAB hkk2 hRel hRelA hX hkey hzk hzv hg2 fp fq hb1
              have hok' := okD j p hpZ hok
              have kL := LenK hR' hRel' hm'
              have hlim := hRel'.2.2
              rw [hRel'.1.length_eq, hm'] at hlim
              have FIN : Hid (Kp w t lim (i + 1) _ _ _ _ p _) := ⟨_, _, hR', hRel', hm', by have := HB2.out; omega, hok'⟩
              clear hR' hRel' hm'
              go_wp2_with fail
              refine kL.mono ?_
              clear kL
              rintro e wl ⟨rfl, rfl⟩
              rcases Nat.eq_zero_or_pos p with h0 | h0
              · have hi0 : ¬ ((p : Int) > 0) := by omega
                clear h0 hlim
                go_wp2
                go_roundg (N - (i + 1))
                case measure => have := HB.out; omega
                case rel => exact ⟨i + 1, _, _, _, _, _, rfl, rfl, by simp, by have := HB.out; omega, FIN.out⟩
              · have hi0 : (p : Int) > 0 := by omega
                have hi1 : ¬ ((p : Int) > lim) := by omega
                clear h0 hlim
                go_wp2
                go_roundg (N - (i + 1))
                case measure => have := HB.out; omega
                case rel => exact ⟨i + 1, _, _, _, _, _, rfl, rfl, by simp, by have := HB.out; omega, FIN.out⟩
            have hb3 : (kind == 3) = false := by simpa using hk3
            clear hk3
            have kG := GetK hR key
            rw [hRelA.here] at kG
            obtain ⟨g2, rfl, hvc, hg2, hcv⟩ := hR.cellsV hm (by omega)
            obtain ⟨cv, _⟩ := hcv j hjZ
            rw [hZj] at cv
            clear hcv
            have hR' := hR
            have hRel' := hRel
            have hm' := hm
            clear hR hRel hm bO hZ hA hZj hAB hkk2 hRelA hX hkey hjZ
            go_wp2_with fail
            refine kG.mono ?_
            clear kG
            rintro e wg ⟨rfl, hwg⟩
            obtain rfl : w0 = wg := hwg.symm
            have hok' := hok
            have kL := LenK hR' hRel' hm'
            have hlim := hRel'.2.2
            rw [hRel'.1.length_eq, hm'] at hlim
            have FIN : Hid (Kp w t lim (i + 1) _ _ _ _ m _) := ⟨_, _, hR', hRel', hm', by have := HB.out; omega, hok'⟩
            clear hR' hRel' hm'
            go_wp2_with fail
            refine kL.mono ?_
            clear kL
            rintro e wl ⟨rfl, rfl⟩
            have h0 : 0 < m := by omega
            have hi0 : (m : Int) > 0 := by omega
            have hi1 : ¬ ((m : Int) > lim) := by omega
            clear h0 hlim
            go_wp2
            go_roundg (N - (i + 1))
            case measure => have := HB.out; omega
            case rel => exact ⟨i + 1, _, _, _, _, _, rfl, rfl, by simp, by have := HB.out; omega, FIN.out⟩
          · have hbe := beq_ne he
            go_wp2
            go_quiet (fail)
            clear cK cO
            have u2 := hu.trans (up_drewN wr nq)
            generalize wr.drewN nq = w0 at u2 ⊢
            go_wp2
            go_roundg (gk - 1)
            case measure => have := HJ.out; omega
            case rel => exact ⟨u2, j + 1, by simp, by have := HJ.out; omega, fun l h hl => by
              by_cases e : l = j
              · subst e; rw [hkk]; exact he
              · exact hH.out.2 l h (by omega)⟩
        · obtain rfl : j = m := by have := hH.out.1; omega
          have hjm' : ¬ ((j : Int) < (j : Int)) := by omega
          go_wp2
          go_quiet (fail)
          have u2 := hu.trans (up_drewN wr nq)
          generalize wr.drewN nq = w0 at u2 ⊢
          obtain ⟨hR1, hRel, hm, bO1, hGt, hGk, hkey, hok⟩ := HH.out
          have hR := hR1.up u2
          have bO := bO1.up u2
          obtain ⟨o0, o1, o2, o3⟩ := box4k bO
          have hX : X.length ≤ 4000000000000 := by have := hRel.1.length_eq; have := HB.out; omega
          have hno : ∀ x ∈ Z, x.1 ≠ key := fun x hx => by
            obtain ⟨l, hl, rfl⟩ := List.getElem_of_mem hx
            exact hH.out.2 l hl (by omega)
          clear HK HO HM HH hu hH hR1 bO1 u2
          by_cases hk1 : kind = 1
          · subst hk1
            have kP := PutK hR key val hkey hX
            obtain ⟨hT, hY, hN0⟩ := hRel.putNew hno val
            rw [hT, hm] at kP
            rw [hm] at hY hN0
            by_cases hl : (j : Int) < lim
            · rw [decide_eq_true hl] at kP
              have hRel' := hY hl
              clear hT hY hN0
              go_wp2_with fail
              refine kP.mono ?_
              clear kP o0 o1 o2 o3
              rintro e w3 ⟨rfl, hR3, t3⟩
              have bO3 := Touch.box bO t3 (by simpa using hGt)
              obtain ⟨_, _, o2, _⟩ := box4k bO3
              have zr : (w3.alloc (.cells #[.string key] 9)).cell? ⟨w3.heap.size, 0, none⟩ = some (.string key) := (Box.new w3 #[.string key] 9).cell 0
              have hml : (Z.map (·.1)).length = j := by rw [List.length_map]; exact hm
              have hml2 : (Z.map (·.2)).length = j := by rw [List.length_map]; exact hm
              have HR3 : Hid (KR w t lim (putT lim key val X) (Z.map (·.1)) (Z.map (·.2)) (.slice ka j kc) (.slice va j vc) (w3.alloc (.cells #[.string key] 9))) := hR3.up (Up.alloc _ _)
              have HBx : Hid (Box (w3.alloc (.cells #[.string key] 9)) G #[.int .i64 1, .int .i64 on, .string key, .int .i64 val]) := bO3.up (Up.alloc _ _)
              clear hR3 t3 bO3 bO hR
              go_wp2_with (at_builtin; refine wpList_pushKey _ rfl (.tmp 110) (.tmp 113) rfl key w3.heap.size rfl rfl HR3.out zr hml ?hl1 ?_)
              case hl1 => have := HB.out; omega
              intro ao1 c1 w4 hR4 t4
              have bO4 := Touch.box HBx.out t4 hGk
              clear o2 zr HR3 HBx
              obtain ⟨_, _, _, o3⟩ := box4k bO4
              have zr : (w4.alloc (.cells #[.int .i64 val] 3)).cell? ⟨w4.heap.size, 0, none⟩ = some (.int .i64 val) := (Box.new w4 #[.int .i64 val] 3).cell 0
              have HR4 : Hid (KR w t lim (putT lim key val X) (Z.map (·.1) ++ [key]) (Z.map (·.2)) (.slice ao1 (j + 1) c1) (.slice va j vc) (w4.alloc (.cells #[.int .i64 val] 3))) := hR4.up (Up.alloc _ _)
              clear hR4 t4 bO4
              generalize hj2 : j + 1 = j2 at HR4 ⊢
              go_wp2_with (at_builtin; refine wpList_pushVal _ rfl (.tmp 115) (.tmp 118) rfl val w4.heap.size rfl rfl HR4.out zr hml2 ?hl2 ?_)
              case hl2 => have := HB.out; omega
              intro ao2 c2 w5 hR5
              try rw [hj2] at hR5
              try rw [hj2]
              have hR' : KR w t lim (putT lim key val X) ((Z ++ [(key, val)]).map (·.1)) ((Z ++ [(key, val)]).map (·.2)) (.slice ao1 j2 c1) (.slice ao2 j2 c2) w5 := by simpa using hR5
              have hm' : (Z ++ [(key, val)]).length = j2 := by simp; omega
              have hok' := okP val hkey hok
              clear hR5 HR4 o3 zr hml hml2 hRel hm hno hkey hX hGt hGk
              have kL := LenK hR' hRel' hm'
              have hlim := hRel'.2.2
              rw [hRel'.1.length_eq, hm'] at hlim
              have FIN : Hid (Kp w t lim (i + 1) _ _ _ _ j2 _) := ⟨_, _, hR', hRel', hm', by have := HB.out; omega, hok'⟩
              clear hR' hRel' hm'
              go_wp2_with fail
              refine kL.mono ?_
              clear kL
              rintro e wl ⟨rfl, rfl⟩
              have h0 : 0 < j2 := by omega
              have hi0 : (j2 : Int) > 0 := by omega
              have hi1 : ¬ ((j2 : Int) > lim) := by omega
              clear h0 hlim
              go_wp2
              go_roundg (N - (i + 1))
              case measure => have := HB.out; omega
              case rel => exact ⟨i + 1, _, _, _, _, _, rfl, rfl, by simp, by have := HB.out; omega, FIN.out⟩
            · rw [decide_eq_false hl, hN0 hl] at kP
              clear hT hY hN0
              go_wp2_with fail
              refine kP.mono ?_
              clear kP o0 o1 o2 o3
              rintro e w3 ⟨rfl, hR', t3⟩
              have hRel' := hRel
              have hm' := hm
              clear hR t3 bO hRel hm hno hkey hX hGt hGk
              have hok' := hok
              have kL := LenK hR' hRel' hm'
              have hlim := hRel'.2.2
              rw [hRel'.1.length_eq, hm'] at hlim
              have FIN : Hid (Kp w t lim (i + 1) _ _ _ _ j _) := ⟨_, _, hR', hRel', hm', by have := HB.out; omega, hok'⟩
              clear hR' hRel' hm'
              go_wp2_with fail
              refine kL.mono ?_
              clear kL
              rintro e wl ⟨rfl, rfl⟩
              rcases Nat.eq_zero_or_pos j with h0 | h0
              · have hi0 : ¬ ((j : Int) > 0) := by omega
                clear h0 hlim
                go_wp2
                go_roundg (N - (i + 1))
                case measure => have := HB.out; omega
                case rel => exact ⟨i + 1, _, _, _, _, _, rfl, rfl, by simp, by have := HB.out; omega, FIN.out⟩
              · have hi0 : (j : Int) > 0 := by omega
                have hi1 : ¬ ((j : Int) > lim) := by omega
                clear h0 hlim
                go_wp2
                go_roundg (N - (i + 1))
                case measure => have := HB.out; omega
                case rel => exact ⟨i + 1, _, _, _, _, _, rfl, rfl, by simp, by have := HB.out; omega, FIN.out⟩
          have hb1 : (kind == 1) = false := by simpa using hk1
          clear hk1
          by_cases hk3 : kind = 3
          · subst hk3
            have kD := DelK hR key hX
            rw [hRel.gone hno, hRel.delNone hno] at kD
            go_wp2_with fail
            refine kD.mono ?_
            clear kD o0 o1 o2 o3
            rintro e w3 ⟨rfl, hR'⟩
            have hRel' := hRel
            have hm' := hm
            clear hR bO hRel hm hno hkey hX hGt hGk
            have hok' := hok
            have kL := LenK hR' hRel' hm'
            have hlim := hRel'.2.2
            rw [hRel'.1.length_eq, hm'] at hlim
            have FIN : Hid (Kp w t lim (i + 1) _ _ _ _ j _) := ⟨_, _, hR', hRel', hm', by have := HB.out; omega, hok'⟩
            clear hR' hRel' hm'
            go_wp2_with fail
            refine kL.mono ?_
            clear kL
            rintro e wl ⟨rfl, rfl⟩
            rcases Nat.eq_zero_or_pos j with h0 | h0
            · have hi0 : ¬ ((j : Int) > 0) := by omega
              clear h0 hlim
              go_wp2
              go_roundg (N - (i + 1))
              case measure => have := HB.out; omega
              case rel => exact ⟨i + 1, _, _, _, _, _, rfl, rfl, by simp, by have := HB.out; omega, FIN.out⟩
            · have hi0 : (j : Int) > 0 := by omega
              have hi1 : ¬ ((j : Int) > lim) := by omega
              clear h0 hlim
              go_wp2
              go_roundg (N - (i + 1))
              case measure => have := HB.out; omega
              case rel => exact ⟨i + 1, _, _, _, _, _, rfl, rfl, by simp, by have := HB.out; omega, FIN.out⟩
          have hb3 : (kind == 3) = false := by simpa using hk3
          clear hk3
          have kG := GetK hR key
          rw [hRel.gone hno] at kG
          have hR' := hR
          have hRel' := hRel
          have hm' := hm
          clear hR hRel hm bO hno hkey hX hGt hGk
          go_wp2_with fail
          refine kG.mono ?_
          clear kG
          rintro e wg ⟨rfl, hwg⟩
          obtain rfl : w0 = wg := hwg.symm
          have hok' := hok
          have kL := LenK hR' hRel' hm'
          have hlim := hRel'.2.2
          rw [hRel'.1.length_eq, hm'] at hlim
          have FIN : Hid (Kp w t lim (i + 1) _ _ _ _ j _) := ⟨_, _, hR', hRel', hm', by have := HB.out; omega, hok'⟩
          clear hR' hRel' hm'
          go_wp2_with fail
          refine kL.mono ?_
          clear kL
          rintro e wl ⟨rfl, rfl⟩
          rcases Nat.eq_zero_or_pos j with h0 | h0
          · have hi0 : ¬ ((j : Int) > 0) := by omega
            clear h0 hlim
            go_wp2
            go_roundg (N - (i + 1))
            case measure => have := HB.out; omega
            case rel => exact ⟨i + 1, _, _, _, _, _, rfl, rfl, by simp, by have := HB.out; omega, FIN.out⟩
          · have hi0 : (j : Int) > 0 := by omega
            have hi1 : ¬ ((j : Int) > lim) := by omega
            clear h0 hlim
            go_wp2
            go_roundg (N - (i + 1))
            case measure => have := HB.out; omega
            case rel => exact ⟨i + 1, _, _, _, _, _, rfl, rfl, by simp, by have := HB.out; omega, FIN.out⟩
    · obtain rfl : i = N := by omega
      have hiN : ¬ ((i : Int) < (i : Int)) := by omega
      obtain ⟨X, Z, hR, hRel, hm, hmi, hok⟩ := hE.out
      have hXm : X.length = m := hRel.1.length_eq.trans hm
      have hXl : X.length ≤ 4000000000000 := by omega
      have hmb : (m : Int) ≤ 3518437208780 := by omega
      have HKO : Hid (∀ j (h : j < X.length), KeyOk X[j].1) := fun j h => hok _ (hRel.1.mem_iff.1 (List.getElem_mem h))
      have HG : Hid (∀ j (h : j < X.length), getL X[j].1 X = some X[j].2) := fun j h => (get_mem hRel.2.1).2 (List.getElem_mem h)
      have HS : Hid (∀ j (h : j + 1 < X.length), kl (X[j]'(by omega)).1 X[j + 1].1 = true) := fun j h => List.pairwise_iff_getElem.1 hRel.2.1 j (j + 1) (by omega) h (by omega)
      have hTP : TabP wr (some ⟨t, 0, none⟩) X := .inr ⟨t, lim, rfl, hR.1⟩
      have hTI := hR.1
      have hU := hR.2.2.2.1
      clear hE hR hRel hm hmi hok HQ HN hn hgi hlt
      go_wp2_with fail
      refine (yields_any (some ⟨t, 0, none⟩) true ⟨#[]⟩ (-1) X wr hTP hXl).mono ?_
      rintro e wd ⟨v, rfl, hv, _, ud⟩
      replace hv : SlIt wd v X := by simpa [cut] using hv
      obtain ⟨vo, vc2, rfl⟩ := hv.slice
      have HT : Hid (∀ {w' : World}, Up wd w' → TabI w' t lim X ∧ Up w w') := fun u => ⟨(hTI.up ud).up u, (hU.trans ud).trans u⟩
      have HV : Hid (∀ j (h : j < X.length) {w' : World}, Up wd w' → ∃ g o, vo = some ⟨g, o, none⟩ ∧ w'.cell? ⟨g, o + j * 2, none⟩ = some (.string X[j].1) ∧ w'.cell? ⟨g, o + j * 2 + 1, none⟩ = some (.int .i64 X[j].2)) := fun j h {w'} u => by
        obtain ⟨_, _, he, _, hx⟩ := hv
        simp only [Value.slice.injEq, true_and] at he
        obtain ⟨rfl, rfl⟩ := he
        obtain ⟨g, o, rfl, h1⟩ := hx (by rintro rfl; simp at h)
        exact ⟨g, o, rfl, (u.cell (World.block_lt_of_cell? wd _ (h1 j h).1)).trans (h1 j h).1, (u.cell (World.block_lt_of_cell? wd _ (h1 j h).2)).trans (h1 j h).2⟩
      have HM : Hid (X.length = m) := hXm
      rw [hXm]
      clear hv hTP hTI hU ud hXm hXl
      go_wp2
      go_loopg [17] m (fun g s wx => Up wd wx ∧ ∃ j : Nat, s = .int .i64 (j : Int) ∧ Hid (g + j = m))
      case atStart => exact ⟨Up.refl _, 0, rfl, rfl⟩
      case round =>
        obtain ⟨hu, j, rfl, hH⟩ := hrel
        by_cases hjm : j < m
        · obtain ⟨g, o, rfl, c1, c2⟩ := HV.out j (by rw [HM.out]; exact hjm) hu
          have hjm' : (j : Int) < (m : Int) := by omega
          have hw5 : IntKind.i64.wrap ((j : Int) + 1) = ((j + 1 : Nat) : Int) := by rw [IntKind.wrap_i64]; omega
          have HJ : Hid (gk + j = m ∧ j < m) := ⟨hH.out, hjm⟩
          have hgt := HG.out j (by rw [HM.out]; exact hjm)
          have hko := HKO.out j (by rw [HM.out]; exact hjm)
          rcases Nat.eq_zero_or_pos j with h0 | h0
          · have hj0 : decide ((j : Int) > 0) = false := decide_eq_false (by omega)
            have hj1 : decide ((0 : Int) < (j : Int)) = false := decide_eq_false (by omega)
            have hj2 : decide (0 < j) = false := decide_eq_false (by omega)
            obtain ⟨kk, hkk⟩ : ∃ kk, (X[j]'(by rw [HM.out]; exact hjm)).1 = kk := ⟨_, rfl⟩
            obtain ⟨zz, hzz⟩ : ∃ zz, (X[j]'(by rw [HM.out]; exact hjm)).2 = zz := ⟨_, rfl⟩
            have HC1 : Hid (∀ {w' : World}, Up wd w' → w'.cell? ⟨g, o + j * 2, none⟩ = some (.string kk)) := fun u => by
              obtain ⟨g', o', he, d, _⟩ := HV.out j (by rw [HM.out]; exact hjm) u
              simp only [Option.some.injEq, Addr.mk.injEq, and_true] at he
              obtain ⟨rfl, rfl⟩ := he
              rw [← hkk]; exact d
            have HC2 : Hid (∀ {w' : World}, Up wd w' → w'.cell? ⟨g, o + j * 2 + 1, none⟩ = some (.int .i64 zz)) := fun u => by
              obtain ⟨g', o', he, _, d⟩ := HV.out j (by rw [HM.out]; exact hjm) u
              simp only [Option.some.injEq, Addr.mk.injEq, and_true] at he
              obtain ⟨rfl, rfl⟩ := he
              rw [← hzz]; exact d
            rw [hkk] at c1 hgt
            rw [hzz] at c2 hgt
            clear hkk hzz h0 hH hko
            go_wp2
            go_quiet (fail)
            have u2 := hu.trans (up_drewN wr nq)
            generalize wr.drewN nq = w0 at u2 ⊢
            replace c1 := HC1.out u2
            replace c2 := HC2.out u2
            have kG : Calls Try.prog 14 #[.pointer (some ⟨t, 0, none⟩), .string kk] w0 fun e w' => e = .returned (.tuple #[.int .i64 zz, .bool true]) ∧ w' = w0 := by
              have := GetI_any kk t lim X w0 (HT.out u2).1
              rwa [hgt] at this
            clear hj0 hj1 hj2
            go_wp2_with fail
            refine kG.mono ?_
            clear kG
            rintro e wg ⟨rfl, hwg⟩
            obtain rfl : w0 = wg := hwg.symm
            go_wp2
            go_roundg (gk - 1)
            case measure => have := HJ.out; omega
            case rel => exact ⟨u2, j + 1, by simp, by have := HJ.out; show _ = _; omega⟩
          · obtain ⟨jp, hjp⟩ : ∃ jp, j = jp + 1 := ⟨j - 1, by omega⟩
            have hj0 : decide ((j : Int) > 0) = true := decide_eq_true (by omega)
            have hj1 : decide ((0 : Int) < (j : Int)) = true := decide_eq_true (by omega)
            have hj2 : decide (0 < j) = true := decide_eq_true (by omega)
            have hw6 : IntKind.i64.wrap ((j : Int) - 1) = (jp : Int) := by rw [IntKind.wrap_i64]; omega
            have hjpm : (jp : Int) < (m : Int) := by omega
            have hjl : j < X.length := by rw [HM.out]; exact hjm
            have hpl : jp < X.length := by omega
            obtain ⟨g', o', he, d1, _⟩ := HV.out jp hpl hu
            simp only [Option.some.injEq, Addr.mk.injEq, and_true] at he
            obtain ⟨rfl, rfl⟩ := he
            have hkl := HS.out jp (by omega)
            have hko2 := HKO.out jp hpl
            have e2 : ∀ (h' : jp + 1 < X.length), X[jp + 1]'h' = X[j]'hjl := fun h' => by subst hjp; rfl
            rw [e2] at hkl
            obtain ⟨kk, hkk⟩ : ∃ kk, (X[j]'hjl).1 = kk := ⟨_, rfl⟩
            obtain ⟨zz, hzz⟩ : ∃ zz, (X[j]'hjl).2 = zz := ⟨_, rfl⟩
            obtain ⟨kp, hkp⟩ : ∃ kp, (X[jp]'hpl).1 = kp := ⟨_, rfl⟩
            have c1' : wr.cell? ⟨g, o + j * 2, none⟩ = some (.string kk) := by rw [← hkk]; exact c1
            have c2' : wr.cell? ⟨g, o + j * 2 + 1, none⟩ = some (.int .i64 zz) := by rw [← hzz]; exact c2
            have hgt' : getL kk X = some zz := by rw [← hkk, ← hzz]; exact hgt
            have hko' : KeyOk kk := by rw [← hkk]; exact hko
            rw [hkp] at d1 hkl hko2
            rw [hkk] at hkl
            clear c1 c2 hgt hko
            have c1 := c1'
            have c2 := c2'
            have hgt := hgt'
            have HC1 : Hid (∀ {w' : World}, Up wd w' → w'.cell? ⟨g, o + j * 2, none⟩ = some (.string kk)) := fun u => by
              obtain ⟨g', o', he, d, _⟩ := HV.out j hjl u
              simp only [Option.some.injEq, Addr.mk.injEq, and_true] at he
              obtain ⟨rfl, rfl⟩ := he
              rw [← hkk]; exact d
            have HC2 : Hid (∀ {w' : World}, Up wd w' → w'.cell? ⟨g, o + j * 2 + 1, none⟩ = some (.int .i64 zz)) := fun u => by
              obtain ⟨g', o', he, _, d⟩ := HV.out j hjl u
              simp only [Option.some.injEq, Addr.mk.injEq, and_true] at he
              obtain ⟨rfl, rfl⟩ := he
              rw [← hzz]; exact d
            have HC3 : Hid (∀ {w' : World}, Up wd w' → w'.cell? ⟨g, o + jp * 2, none⟩ = some (.string kp)) := fun u => by
              obtain ⟨g', o', he, d, _⟩ := HV.out jp hpl u
              simp only [Option.some.injEq, Addr.mk.injEq, and_true] at he
              obtain ⟨rfl, rfl⟩ := he
              rw [← hkp]; exact d
            have kB := fun {w' : World} => behind_any kp kk w' hko2 hko'
            rw [hkl] at kB
            clear hkk hzz hkp h0 hH hko2 hko' hkl e2 hjp c1' c2' hgt' d1 c1 c2
            have sof : ∀ {w' : World}, Up wd w' → w'.cell? ⟨g, o + j * 2, none⟩ = some (.string kk) ∧ w'.cell? ⟨g, o + jp * 2, none⟩ = some (.string kp) ∧ Up wd w' := fun u => ⟨HC1.out u, HC3.out u, u⟩
            go_wp2_with fail
            have hs := sof (hu.trans (Up.drew wr))
            go_region_held3 (fun w' => w'.cell? ⟨g, o + j * 2, none⟩ = some (.string kk) ∧ w'.cell? ⟨g, o + jp * 2, none⟩ = some (.string kp) ∧ Up wd w') (exact hs)
              (first
              | (go_at_call 43; refine kB.mono ?_; clear kB; rintro e wx ⟨rfl, ux⟩; have uy := hs.2.2.trans ux; clear hs; have hs := sof uy))
            all_goals
              have c2 := HC2.out hs.2.2
              have c1 := hs.1
              have kG := (GetI_any kk t lim X _ (HT.out hs.2.2).1)
              rw [hgt] at kG
              clear hj0 hj1 hj2
              go_wp2_with fail
              refine kG.mono ?_
              clear kG
              rintro e wg ⟨rfl, hwg⟩
              rw [hwg]
              go_wp2
              go_roundg (gk - 1)
              case measure => have := HJ.out; omega
              case rel => exact ⟨hs.2.2, j + 1, by simp, by have := HJ.out; show _ = _; omega⟩
        · have hjm' : ¬ ((j : Int) < (m : Int)) := by omega
          clear hjm hH
          go_wp2
          go_ret
          exact ⟨rfl, (HT.out hu).2⟩
end Go.Proofs.Ytldmiieepikjnaa
