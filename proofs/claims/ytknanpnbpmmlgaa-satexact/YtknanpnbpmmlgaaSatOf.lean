/- sat: the reference's of and sum. -/
import Derived.Test.YtknanpnbpmmlgaaSatCalls2
import Derived.Test.YtknanpnbpmmlgaaSatDig
import Derived.BigQuiet
import Derived.Deep.QuietTactic
import Derived.Laws.OwnMore
import Derived.Laws.MakeOwn
set_option linter.unusedVariables false
namespace Go.Proofs.Ytknanpnbpmmlgaa
open Go Go.RowKit

theorem Try.infoU64 : (Try.prog.info? 25).map (fun i => (i.zero, i.size, i.bytes)) = some (some (.int .u64 0), 1, 8) := by kernel_rfl

/-- Digits as values. -/
abbrev Vs (ds : List Nat) : List Value := ds.map fun d => V d
theorem vs_one (ds : List Nat) : ∀ u ∈ Vs ds, u.oneCell' = true := by
  intro u hu
  obtain ⟨c, _, rfl⟩ := List.mem_map.1 hu
  rfl

theorem block_lt {w : World} {g : Nat} {o : Obj} (h : w.heap[g]? = some o) : g < w.heap.size := by
  obtain ⟨hl, _⟩ := Array.getElem?_eq_some_iff.1 h
  exact hl

/-- An own row of digits. -/
def OwnD (w : World) (base : Nat) (v : Value) (ds : List Nat) : Prop := w.ownsRow base 25 1 v ds.length (Vs ds)
/-- The slice v reads as these digits. -/
def SlD (w : World) (v : Value) (ds : List Nat) : Prop := ∃ b o cap, v = .slice (some ⟨b, o, none⟩) ds.length cap ∧ ∀ i (h : i < ds.length), w.cell? ⟨b, o + i, none⟩ = some (V ds[i])

theorem SlD.up {w w' : World} {v : Value} {ds : List Nat} (h : SlD w v ds) (hu : Up w w') : SlD w' v ds := by
  obtain ⟨b, o, cap, rfl, hx⟩ := h
  exact ⟨b, o, cap, rfl, fun i hi => by rw [hu.cell (World.block_lt_of_cell? w _ (hx i hi))]; exact hx i hi⟩
theorem OwnD.sl {w : World} {base : Nat} {v : Value} {ds : List Nat} (h : OwnD w base v ds) (hne : ds ≠ []) : SlD w v ds := by
  obtain ⟨hl, ⟨rfl, hn⟩ | ⟨g, cap, cur, rfl, hb, hg, hnc, hcm, hcs, ht⟩⟩ := h
  · exact absurd (List.eq_nil_of_length_eq_zero hn) hne
  · refine ⟨g, 0, cap, rfl, fun i hi => ?_⟩
    rw [cell_of_row w g _ cur 25 (0, 0) hg]
    have : (Vs ds)[i]? = some (V ds[i]) := by simp [hi]
    rw [← ht, List.getElem?_take] at this
    split at this
    · simpa using this
    · cases this
theorem upDrewN (w : World) (n : Nat) : Up w (w.drewN n) := ⟨rfl, rfl, rfl, Nat.le_refl _, fun _ _ => rfl⟩
theorem OwnD.up {w w' : World} {base : Nat} {v : Value} {ds : List Nat} (h : OwnD w base v ds) (hu : Up w w') : OwnD w' base v ds := by
  obtain ⟨hl, ⟨rfl, hn⟩ | ⟨g, cap, cur, rfl, hb, hg, hnc, hcm, hcs, ht⟩⟩ := h
  · exact ⟨hl, .inl ⟨rfl, hn⟩⟩
  · exact ⟨hl, .inr ⟨g, cap, cur, rfl, hb, by rw [hu.block g (block_lt hg)]; exact hg, hnc, hcm, hcs, ht⟩⟩
theorem own_empty (w : World) : OwnD (w.alloc (.cells #[] 25)) w.heap.size (.slice (some ⟨w.heap.size, 0, none⟩) 0 0) [] :=
  ⟨rfl, .inr ⟨w.heap.size, 0, #[], rfl, Nat.le_refl _, heap_alloc_new _ _, Nat.le_refl _, by unfold maxLen; omega, rfl, rfl⟩⟩

/-- append(s, x) where s is an own row of digits, and x the one digit of a new block. -/
theorem wpList_pushD {ops : Array Oper} {rest : List Oper} {o : Oper} {a : Act} {Q : Exit → Act → World → Prop} (w : World) (hgd : o.guard = none) (s x : Operand)
    (ho : o.op = .call { callee := .builtin .append, args := #[s, x], argTypes := #[58, 58] }) (base : Nat) (v : Value) (ds : List Nat) (hs : a.eval s = v) (d : Nat)
    (hx : a.eval x = .slice (some ⟨w.heap.size, 0, none⟩) 1 1) (how : OwnD w base v ds) (hbase : base ≤ w.heap.size) (hl : ds.length ≤ 2000)
    (hK : ∀ v' w', OwnD w' base v' (ds ++ [d]) → Below base w w' → wpList Try.prog ops Q rest (a.put o.dst v') w') :
    wpList Try.prog ops Q (o :: rest) a (w.alloc (.cells #[V d] 25)) := by
  obtain ⟨i0, hi, hz0, hz1, hz2⟩ := info_parts Try.infoU64
  refine wpList_append_own _ hgd s x 58 ho base 25 i0 (.int .u64 0) 1 8 Try.underlying58 hi hz0 hz1 hz2 rfl (by decide) v ds.length (Vs ds) hs (World.ownsRow.alloc how _) ⟨w.heap.size, 0, none⟩ 1 1 [V d] hx rfl ?_ ?_ ?_ ?_ ?_ ?_
  · intro j u hj
    match j, hj with
    | 0, hj => simp at hj; subst hj; rw [Addr.add_lit, cell_of_row _ _ _ _ _ _ (heap_alloc_new _ _)]; rfl
  · intro u hu; simp at hu; subst hu; rfl
  · unfold maxLen; omega
  · omega
  · simp; omega
  · intro v' w' h1 h2 _
    have hblk : ∀ k, v.ownBlock = some k → base ≤ k ∧ k < w.heap.size := fun k hk => World.ownsRow.lt how k hk
    refine hK v' w' (by simpa [OwnD] using h1) ?_
    refine Below.trans ((Below.refl base w).alloc hbase (.cells #[V d] 25)) ?_
    refine (Below.refl base _).grown h2 (by simp; omega) ?_
    intro k hk
    exact (hblk k hk).1

theorem mod_n (a b : Nat) : (a : Int) % (b : Int) = ((a % b : Nat) : Int) := by omega

set_option maxHeartbeats 800000 in
theorem of_any (h l : Nat) (hh : N64 h) (hl : N64 l) (w : World) : Calls Try.prog 38 #[V h, V l] w fun e w' => ∃ v, e = .returned v ∧ SlD w' v (dig8 h l) ∧ Up w w' := by
  have HB : Hid (N64 h ∧ N64 l) := ⟨hh, hl⟩
  clear hh hl
  go_enter Try.func38, Try.ntmps38
  go_wp2_with fail
  go_loopg [1, 5, 6] 4 (fun g y s i wr => ∃ k : Nat, k ≤ 4 ∧ g = 4 - k ∧ i = .int .i64 k ∧ y = V (l / 65536 ^ k) ∧ Hid (OwnD wr w.heap.size s (dgs l k) ∧ Up w wr))
  case atStart => exact ⟨0, by omega, rfl, rfl, by rw [Nat.pow_zero, Nat.div_one], own_empty w, Up.alloc _ _⟩
  case round =>
    obtain ⟨k, hk, rfl, rfl, rfl, hH⟩ := hrel
    by_cases hlt : (k : Int) < 4
    · obtain ⟨x, hx⟩ : ∃ x, l / 65536 ^ k % 65536 = x := ⟨_, rfl⟩
      have e1 : ((l / 65536 ^ k : Nat) : Int) % 65536 = (x : Int) := by rw [← hx]; exact mod_n _ 65536
      obtain ⟨y, hy⟩ : ∃ y, l / 65536 ^ (k + 1) = y := ⟨_, rfl⟩
      have e2 : ((l / 65536 ^ k : Nat) : Int) / 65536 = (y : Int) := by
        rw [← hy, Nat.pow_succ, ← Nat.div_div_eq_div_mul]; omega
      have e3 : IntKind.u64.wrap (y : Int) = (y : Int) := wrap_n y (by rw [← hy]; exact Nat.lt_of_le_of_lt (Nat.div_le_self _ _) HB.out.2)
      have Hs : Hid (dgs l (k + 1) = dgs l k ++ [x]) := by show _ = _; rw [dgs_succ l k, hx]
      have Hy : Hid (l / 65536 ^ (k + 1) = y) := hy
      have Hk : Hid (k < 4) := by show k < 4; omega
      generalize l / 65536 ^ k = Y at e1 e2
      clear hx hy hk
      go_wp2_with (at_builtin; refine wpList_pushD _ rfl (.tmp 13) (.tmp 16) rfl w.heap.size _ (dgs l k) rfl x rfl hH.out.1 hH.out.2.size ?hl ?_)
      case hl => rw [dgs_length]; have := Hk.out; omega
      intro v' w' ho hb
      have Ho : Hid (OwnD w' w.heap.size v' (dgs l k ++ [x]) ∧ Up w w') := ⟨ho, Below.trans hH.out.2 hb⟩
      clear ho hb
      go_wp2
      go_roundg (4 - (k + 1))
      case measure => have := Hk.out; omega
      case rel => exact ⟨k + 1, Hk.out, rfl, by go_num, by rw [Hy.out], by rw [Hs.out]; exact Ho⟩
    · obtain rfl : k = 4 := by omega
      clear hlt hk
      go_wp2_with fail
      go_loopg [0, 5, 7] 4 (fun g y s i wr => ∃ k : Nat, k ≤ 4 ∧ g = 4 - k ∧ i = .int .i64 k ∧ y = V (h / 65536 ^ k) ∧ Hid (OwnD wr w.heap.size s (dgs l 4 ++ dgs h k) ∧ Up w wr))
      case atStart => exact ⟨0, by omega, rfl, rfl, by rw [Nat.pow_zero, Nat.div_one], by rw [show dgs h 0 = [] from rfl, List.append_nil]; exact hH⟩
      case round =>
        obtain ⟨k, hk, rfl, rfl, rfl, hG⟩ := hrel
        clear hH
        by_cases hlt : (k : Int) < 4
        · obtain ⟨x, hx⟩ : ∃ x, h / 65536 ^ k % 65536 = x := ⟨_, rfl⟩
          have e1 : ((h / 65536 ^ k : Nat) : Int) % 65536 = (x : Int) := by rw [← hx]; exact mod_n _ 65536
          obtain ⟨y, hy⟩ : ∃ y, h / 65536 ^ (k + 1) = y := ⟨_, rfl⟩
          have e2 : ((h / 65536 ^ k : Nat) : Int) / 65536 = (y : Int) := by
            rw [← hy, Nat.pow_succ, ← Nat.div_div_eq_div_mul]; omega
          have e3 : IntKind.u64.wrap (y : Int) = (y : Int) := wrap_n y (by rw [← hy]; exact Nat.lt_of_le_of_lt (Nat.div_le_self _ _) HB.out.1)
          have Hs : Hid (dgs l 4 ++ dgs h (k + 1) = dgs l 4 ++ dgs h k ++ [x]) := by show _ = _; rw [dgs_succ h k, hx, List.append_assoc]
          have Hy : Hid (h / 65536 ^ (k + 1) = y) := hy
          have Hk : Hid (k < 4) := by show k < 4; omega
          generalize h / 65536 ^ k = Y at e1 e2
          clear hx hy hk
          go_wp2_with (at_builtin; refine wpList_pushD _ rfl (.tmp 24) (.tmp 27) rfl w.heap.size _ (dgs l 4 ++ dgs h k) rfl x rfl hG.out.1 hG.out.2.size ?hl ?_)
          case hl => simp [dgs_length]; have := Hk.out; omega
          intro v' w' ho hb
          have Ho : Hid (OwnD w' w.heap.size v' (dgs l 4 ++ dgs h k ++ [x]) ∧ Up w w') := ⟨ho, Below.trans hG.out.2 hb⟩
          clear ho hb
          go_wp2
          go_roundg (4 - (k + 1))
          case measure => have := Hk.out; omega
          case rel => exact ⟨k + 1, Hk.out, rfl, by go_num, by rw [Hy.out], by rw [Hs.out]; exact Ho⟩
        · obtain rfl : k = 4 := by omega
          clear hlt hk
          go_wp2
          go_ret
          exact ⟨_, rfl, hG.out.1.sl (by simp [dgs, List.range_succ]), hG.out.2⟩

/-- One step of the reference's addition. -/
theorem sum_step (ds : List Nat) (x y c : Nat) (k va vb : Nat) (hk : ds.length = k) (hd : Digs ds) (hx : x < 65536) (hy : y < 65536) (hc : c ≤ 1) (hv : valD ds + 65536 ^ k * c = va + vb) :
    (c + (x + y)) / 65536 ≤ 1 ∧ (ds ++ [(c + (x + y)) % 65536]).length = k + 1 ∧ Digs (ds ++ [(c + (x + y)) % 65536]) ∧
    valD (ds ++ [(c + (x + y)) % 65536]) + 65536 ^ (k + 1) * ((c + (x + y)) / 65536) = (va + 65536 ^ k * x) + (vb + 65536 ^ k * y) := by
  refine ⟨by omega, by simp [hk], digs_snoc hd (Nat.mod_lt _ (by decide)), ?_⟩
  rw [val_snoc, hk, Nat.pow_succ]
  generalize 65536 ^ k = P at *
  have h1 := Nat.div_add_mod (c + (x + y)) 65536
  generalize (c + (x + y)) / 65536 = q at *
  generalize (c + (x + y)) % 65536 = r at *
  have h2 : P * (65536 * q + r) = P * (c + (x + y)) := by rw [h1]
  rw [Nat.mul_add, Nat.mul_add, Nat.mul_add, ← Nat.mul_assoc] at h2
  omega

set_option maxHeartbeats 1600000 in
theorem sum_any (va vb : Value) (da db : List Nat) (w : World) (ha : SlD w va da) (hb : SlD w vb db) (la : da.length = 8) (lb : db.length = 8) (ga : Digs da) (gb : Digs db) :
    Calls Try.prog 37 #[va, vb] w fun e w' => ∃ v ds, e = .returned v ∧ SlD w' v ds ∧ ds.length = 9 ∧ Digs ds ∧ valD ds = valD da + valD db ∧ Up w w' := by
  obtain ⟨ba, oa, pa, rfl, hxa⟩ := ha
  obtain ⟨bb, ob, pb, rfl, hxb⟩ := hb
  rw [la, lb]
  have Ha : Hid (∀ (i : Nat) (h : i < da.length), w.cell? ⟨ba, oa + i, none⟩ = some (V da[i])) := hxa
  have Hb : Hid (∀ (i : Nat) (h : i < db.length), w.cell? ⟨bb, ob + i, none⟩ = some (V db[i])) := hxb
  have HL : Hid (da.length = 8 ∧ db.length = 8 ∧ Digs da ∧ Digs db) := ⟨la, lb, ga, gb⟩
  clear hxa hxb la lb ga gb
  go_enter Try.func37, Try.ntmps37
  go_wp2_with fail
  go_loopg [5, 6, 7] 8 (fun g s c i wr => ∃ (k C : Nat) (ds : List Nat), k ≤ 8 ∧ g = 8 - k ∧ i = .int .i64 k ∧ c = V C ∧ Hid (OwnD wr w.heap.size s ds ∧ Up w wr ∧ ds.length = k ∧ Digs ds ∧ C ≤ 1 ∧ valD ds + 65536 ^ k * C = valD (da.take k) + valD (db.take k)))
  case atStart => exact ⟨0, 0, [], by omega, rfl, rfl, rfl, own_empty w, Up.alloc _ _, rfl, (by intro d hd; cases hd), by omega, by simp [valD]⟩
  case round =>
    obtain ⟨k, C, ds, hk, rfl, rfl, rfl, hH⟩ := hrel
    by_cases hlt : (k : Int) < 8
    · have hka : k < da.length := by rw [HL.out.1]; omega
      have hkb : k < db.length := by rw [HL.out.2.1]; omega
      have ca := Ha.out k hka
      have cb := Hb.out k hkb
      have gx := digs_get HL.out.2.2.1 k hka
      have gy := digs_get HL.out.2.2.2 k hkb
      have ta := val_take da k hka
      have tb := val_take db k hkb
      rw [← hH.out.2.1.cell (World.block_lt_of_cell? w _ ca)] at ca
      rw [← hH.out.2.1.cell (World.block_lt_of_cell? w _ cb)] at cb
      obtain ⟨x, ex⟩ : ∃ x, da[k] = x := ⟨_, rfl⟩
      obtain ⟨y, ey⟩ : ∃ y, db[k] = y := ⟨_, rfl⟩
      rw [ex] at ca gx ta
      rw [ey] at cb gy tb
      obtain ⟨h1, h2, h3, h4, h5, h6⟩ := hH.out
      have hs := sum_step ds x y C k _ _ h3 h4 gx gy h5 h6
      rw [← ta, ← tb] at hs
      have e1 : IntKind.u64.wrap ((x : Int) + (y : Int)) = ((x + y : Nat) : Int) := by rw [IntKind.wrap_u64]; omega
      obtain ⟨z, ez⟩ : ∃ z, x + y = z := ⟨_, rfl⟩
      rw [ez] at e1 hs
      have e2 : IntKind.u64.wrap ((C : Int) + (z : Int)) = ((C + z : Nat) : Int) := by rw [IntKind.wrap_u64]; omega
      obtain ⟨t, et⟩ : ∃ t, C + z = t := ⟨_, rfl⟩
      rw [et] at e2 hs
      have e3 : (t : Int) % 65536 = ((t % 65536 : Nat) : Int) := mod_n t 65536
      have e4 : (t : Int) / 65536 = ((t / 65536 : Nat) : Int) := by omega
      have e5 : IntKind.u64.wrap ((t / 65536 : Nat) : Int) = ((t / 65536 : Nat) : Int) := wrap_n _ (by omega)
      obtain ⟨r, er⟩ : ∃ r, t % 65536 = r := ⟨_, rfl⟩
      obtain ⟨q, eq⟩ : ∃ q, t / 65536 = q := ⟨_, rfl⟩
      rw [er] at e3 hs
      rw [eq] at e4 e5 hs
      have Hs : Hid _ := hs
      have H1 : Hid (OwnD wr w.heap.size _ ds ∧ Up w wr ∧ ds.length = k) := ⟨h1, h2, h3⟩
      have Hk : Hid (k < 8) := by show k < 8; omega
      have hk0 : (0 : Int) ≤ (k : Int) := by omega
      clear hs h1 h2 h3 h4 h5 h6 hH ta tb gx gy ex ey ez et er eq hka hkb hk
      go_wp2_with fail
      go_quiet (fail)
      go_wp2_with (at_builtin; refine wpList_pushD _ rfl (.tmp 24) (.tmp 27) rfl w.heap.size _ ds rfl r rfl ?ho ?hb ?hl ?_)
      case ho => exact H1.out.1.up (upDrewN _ _)
      case hb => exact (H1.out.2.1.trans (upDrewN _ _)).size
      case hl => rw [H1.out.2.2]; have := Hk.out; omega
      intro v' w' ho hb
      have Ho : Hid (OwnD w' w.heap.size v' (ds ++ [r]) ∧ Up w w') := ⟨ho, Below.trans (H1.out.2.1.trans (upDrewN _ _)) hb⟩
      clear ho hb
      go_wp2
      go_roundg (8 - (k + 1))
      case measure => have := Hk.out; omega
      case rel =>
        obtain ⟨s1, s2, s3, s4⟩ := Hs.out
        exact ⟨k + 1, q, ds ++ [r], Hk.out, rfl, by go_num, rfl, Ho.out.1, Ho.out.2, s2, s3, s1, s4⟩
    · obtain rfl : k = 8 := by omega
      obtain ⟨h1, h2, h3, h4, h5, h6⟩ := hH.out
      rw [List.take_of_length_le (by rw [HL.out.1]; omega), List.take_of_length_le (by rw [HL.out.2.1]; omega)] at h6
      have Hf : Hid ((ds ++ [C]).length = 9 ∧ Digs (ds ++ [C]) ∧ valD (ds ++ [C]) = valD da + valD db) := by
        refine ⟨by simp [h3], digs_snoc h4 (by omega), ?_⟩
        rw [val_snoc, h3]; exact h6
      have H1 : Hid (OwnD wr w.heap.size _ ds ∧ Up w wr ∧ ds.length = 8) := ⟨h1, h2, h3⟩
      clear h1 h2 h3 h4 h5 h6 hH hlt hk
      go_wp2_with (at_builtin; refine wpList_pushD _ rfl (.tmp 31) (.tmp 33) rfl w.heap.size _ ds rfl C rfl H1.out.1 H1.out.2.1.size ?hl ?_)
      case hl => rw [H1.out.2.2]; omega
      intro v' w' ho hb
      have Ho : Hid (OwnD w' w.heap.size v' (ds ++ [C]) ∧ Up w w') := ⟨ho, Below.trans H1.out.2.1 hb⟩
      clear ho hb
      go_wp2
      go_ret
      exact ⟨_, ds ++ [C], rfl, Ho.out.1.sl (by simp), Hf.out.1, Hf.out.2.1, Hf.out.2.2, Ho.out.2⟩
end Go.Proofs.Ytknanpnbpmmlgaa
