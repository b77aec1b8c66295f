/- PutText and the reference's over every slice that the form lets in: what an append may ask for up to 2^48 bytes. -/
import Derived.Test.YtpjpjoefmnnpmaaDoorPackPuts
import Derived.Deep.DeepAppendWide
set_option linter.unusedVariables false
namespace Go.Proofs.YtpjpjoefmnnpmaaDoor
open Go Go.RowKit

/-- append(s, x) where s is an own row of bytes, and x the one byte of a new block. -/
theorem wpList_pushW {ops : Array Oper} {rest : List Oper} {o : Oper} {a : Act} {Q : Exit → Act → World → Prop} (w : World) (hgd : o.guard = none) (s x : Operand)
    (ho : o.op = .call { callee := .builtin .append, args := #[s, x], argTypes := #[25, 25] }) (base : Nat) (v : Value) (bs : List UInt8) (hs : a.eval s = v) (q : Int)
    (hx : a.eval x = .slice (some ⟨w.heap.size, 0, none⟩) 1 1) (how : Own w 5 base v bs) (hbase : base ≤ w.heap.size) (hl : bs.length ≤ 140737489000000) (c : UInt8) (hc : q = c.toNat)
    (hK : ∀ v' w', Own w' 5 base v' (bs ++ [c]) → Below base w w' → wpList Tryd.prog ops Q rest (a.put o.dst v') w') :
    wpList Tryd.prog ops Q (o :: rest) a (w.alloc (.cells #[.int .u8 q] 5)) := by
  obtain ⟨i0, hi, hz0, hz1, hz2⟩ := info_parts Tryd.infoU8
  subst hc
  refine wpList_append_own_wide _ hgd s x 25 ho base 5 i0 (.int .u8 0) 1 1 Tryd.underlying25 hi hz0 hz1 hz2 rfl (by decide) v bs.length (Bv bs) hs (how.alloc _) ⟨w.heap.size, 0, none⟩ 1 1 [B c] hx rfl ?_ ?_ ?_ ?_ ?_ ?_
  · intro j u hj
    match j, hj with
    | 0, hj => simp at hj; subst hj; rw [Addr.add_lit, cell_of_row _ _ _ _ _ _ (heap_alloc_new _ _)]; rfl
  · intro u hu; simp at hu; subst hu; rfl
  · unfold maxLen; omega
  · omega
  · simp; omega
  · intro v' w' h1 h2 _
    refine hK v' w' (by simpa [Own] using h1) (((Below.refl base w).alloc hbase _).grown h2 (by simp; omega) ?_)
    intro k hk
    exact (World.ownsRow.lt how k hk).1


/-- append(b, s...) of a string, onto an own row that holds something; what is asked for stays below 2^48 bytes. -/
theorem wpList_append_strW {ops : Array Oper} {rest : List Oper} {o : Oper} {a : Act} {Q : Exit → Act → World → Prop} (w : World) (hgd : o.guard = none) (sl x : Operand)
    (ho : o.op = .call { callee := .builtin .append, args := #[sl, x], argTypes := #[25, 9] }) (base : Nat) (v : Value) (bs : List UInt8) (s : ByteArray) (hs : a.eval sl = v) (hx : a.eval x = .string s)
    (how : Own w 5 base v bs) (hbase : base ≤ w.heap.size) (hl : bs.length + s.size ≤ 140737489000000) (hp : 0 < bs.length)
    (hK : ∀ v' w', Own w' 5 base v' (bs ++ Sb s) → Below base w w' → wpList Tryd.prog ops Q rest (a.put o.dst v') w') : wpList Tryd.prog ops Q (o :: rest) a w := by
  obtain ⟨i0, hi, hz0, hz1, hz2⟩ := info_parts Tryd.infoU8
  have hsl : (Lib.strCells s).length = s.size := Lib.strCells_length s
  have hall : Bv bs ++ Lib.strCells s = Bv (bs ++ Sb s) := by rw [strCells_eq]; simp
  have hlen : (bs ++ Sb s).length = bs.length + s.size := by rw [List.length_append, Sb_len]
  rcases how.2 with ⟨_, h0⟩ | ⟨g, cap, cur, rfl, hbg, hg, hnc, hcm, hcs, htake⟩
  · omega
  · rw [Nat.mul_one] at hcs htake
    refine wpList_plain hgd fun K hKK => ?_
    by_cases hroom : bs.length + s.size ≤ cap
    · have hr := Lib.run_append_room_string (P := Tryd.prog) w 25 9 o.type 5 i0 Tryd.underlying25 Tryd.underlying9 hi hz1 g bs.length cap cur hg s hroom (by omega)
      unfold Oper.wp execOp
      simp only [ho, resolve, invoke, builtin, Sem.run_bind, Sem.run_pure, Result.andThen_ok, List.map_toArray, List.map_cons, List.map_nil, hs, hx, hr]
      refine hKK _ _ (hK _ _ ⟨by simp, .inr ⟨g, cap, _, by rw [hlen], hbg, setRow_heap w g cur _ 5 _ hg, by omega, hcm, ?_, ?_⟩⟩ ⟨rfl, rfl, rfl, by simp, fun k hk => setRow_other w g k _ (by omega)⟩)
      · simp only [List.size_toArray, List.length_append, List.length_take, List.length_drop, Array.length_toList, hsl]
        omega
      · rw [htake, ← hall, hlen, Nat.mul_one]
        have e : (Bv bs ++ Lib.strCells s).length = bs.length + s.size := by simp [hsl]
        rw [← e]; exact List.take_left
    · have holds : ∀ j u, (Bv bs)[j]? = some u → w.cell? ((⟨g, 0, none⟩ : Addr).add j) = some u := how.cells (g := g) rfl
      have hr := Lib.run_append_grow_string (P := Tryd.prog) w 25 9 o.type 5 i0 (.int .u8 0) Tryd.underlying25 Tryd.underlying9 hi hz0 ⟨g, 0, none⟩ bs.length cap (Bv bs) (by rw [hz1]; simp) holds s (by omega) (by omega)
        (by rw [hz2]; exact growslice_fits_wide (by omega) (by omega))
      have hge := grownCap_ge w (bs.length + s.size) cap 5
      have hcm2 : grownCap w (bs.length + s.size) cap 5 ≤ maxLen := grownCap_le_maxLen w (bs.length + s.size) cap 5 (by unfold maxLen; omega)
      unfold Oper.wp execOp
      simp only [ho, resolve, invoke, builtin, Sem.run_bind, Sem.run_pure, Result.andThen_ok, List.map_toArray, List.map_cons, List.map_nil, hs, hx, hr]
      refine hKK _ _ (hK _ _ ⟨by simp, .inr ⟨w.heap.size, _, _, by rw [hlen], hbase, heap_alloc_new w.drew _, by omega, hcm2, ?_, ?_⟩⟩ ⟨rfl, rfl, rfl, by simp, fun k hk => heap_alloc_old w.drew _ (by show k < w.heap.size; omega)⟩)
      · have hz : (Value.int IntKind.u8 0).cells.size = 1 := rfl
        simp only [Array.size_append, List.size_toArray, size_zeroCells, hz, hsl, List.length_map]
        omega
      · simp only [Array.toList_append, List.append_assoc]
        rw [← List.append_assoc, hall, hlen, Nat.mul_one]
        have e : (Bv (bs ++ Sb s)).length = bs.length + s.size := by rw [List.length_map, hlen]
        rw [← e]; exact List.take_left

set_option maxHeartbeats 800000 in
theorem PutTextW_ok (v : Value) (bs : List UInt8) (s : ByteArray) (w : World) (hs : Sl 0 w v bs) (hl : bs.length ≤ 140737488351232) (hn : (s.size : Int) ≤ 65535) :
    Calls Tryd.prog 53 #[v, .string s] w fun e w' => ∃ v', e = .returned (.tuple #[v', .nilIface]) ∧ Own w' 5 w.heap.size v' (bs ++ le 2 s.size ++ Sb s) ∧ Up w w' := by
  go_enter Tryd.func53, Tryd.ntmps53
  go_wp2_with fail
  rw [show (2 : Int) + (s.size : Int) = ((2 + s.size : Nat) : Int) from by omega]
  refine (copyWithRoom_any v bs (2 + s.size) _ hs (by omega) (by omega)).mono ?_
  rintro e w1 ⟨v1, rfl, ho1, hu1⟩
  go_wp2_with fail
  refine (appendWhole_any w.heap.size v1 bs s.size 2 _ ho1 hu1.size (by omega) (by omega) (by omega)).mono ?_
  rintro e w2 ⟨v2, rfl, ho2, hb2⟩
  have hlen : (bs ++ le 2 s.size).length = bs.length + 2 := by simp [le_length]
  go_wp2_with (at_builtin; refine wpList_append_strW _ rfl (.tmp 21) (.tmp 22) rfl w.heap.size _ _ s rfl rfl ho2 ?hb ?hl ?hp ?_)
  case hb => have := hu1.size; have := hb2.size; omega
  case hl => omega
  case hp => omega
  intro v' w' ho' hb'
  go_wp2
  go_ret2
  exact ⟨_, rfl, by simpa using ho', (Below.trans hu1 hb2).trans hb'⟩

set_option maxHeartbeats 800000 in
theorem rPutTextW_ok (v : Value) (bs : List UInt8) (s : ByteArray) (w : World) (hs : Sl 0 w v bs) (hl : bs.length ≤ 140737488351232) (hn : (s.size : Int) ≤ 65535) :
    Calls Tryd.prog 58 #[v, .string s] w fun e w' => ∃ v', e = .returned (.tuple #[v', .int .i64 0]) ∧ Own w' 5 w.heap.size v' (bs ++ le 2 s.size ++ Sb s) ∧ Up w w' := by
  go_enter Tryd.func58, Tryd.ntmps58
  go_wp2_with fail
  refine (rput_any 0 v bs s.size 2 _ hs (by omega) (by omega) (by show s.size < 2 ^ 64; omega)).mono ?_
  rintro e w1 ⟨v1, rfl, ho1, hu1⟩
  have hlen : (bs ++ le 2 s.size).length = bs.length + 2 := by simp [le_length]
  obtain ⟨ps, hps⟩ : ∃ ps, ps = bs ++ le 2 s.size := ⟨_, rfl⟩
  rw [← hps] at ho1 hlen
  have Hps : Hid (ps = bs ++ le 2 s.size) := hps
  clear hps
  go_wp2_with fail
  go_loopw [6, 7] (fun x i wr => ∃ k : Nat, k ≤ s.size ∧ i = .int .i64 k ∧ Own wr 5 w.heap.size x (ps ++ (Sb s).take k) ∧ Up w wr) (fun _ i _ => s.size - (intOf i).toNat)
  case atStart => exact ⟨0, Nat.zero_le _, rfl, by simpa using ho1, hu1⟩
  case round =>
    obtain ⟨k, hk, rfl, ho, hup⟩ := hrel
    by_cases hlt : k < s.size
    · have hsb : (Sb s).take (k + 1) = (Sb s).take k ++ [s[k]'hlt] := by
        rw [List.take_succ_eq_append_getElem (by rw [Sb_len]; exact hlt)]; rfl
      have Hsb : Hid _ := hsb
      clear hsb
      go_wp2_with (at_builtin; refine wpList_pushW _ rfl (.tmp 22) (.tmp 26) rfl w.heap.size _ _ rfl _ rfl ho ?hb ?hl (s[k]'hlt) ?hc ?_)
      case hb => have := hup.size; omega
      case hl => simp only [List.length_append, List.length_take, Sb_len]; omega
      case hc => first | rfl | simp
      intro v' w' ho' hb'
      go_wp2
      go_roundw
      case rel =>
        refine ⟨k + 1, by omega, by go_num, ?_, Below.trans hup hb'⟩
        rw [Hsb.out]
        simpa using ho'
      case measure => simp [intOf]; omega
    · obtain rfl : k = s.size := by omega
      have hall : Hid ((Sb s).take s.size = Sb s) := by show _ = _; rw [← Sb_len, List.take_length]
      rw [hall.out] at ho
      go_wp2
      go_ret2
      rw [Hps.out] at ho
      exact ⟨_, rfl, by simpa using ho, hup⟩
end Go.Proofs.YtpjpjoefmnnpmaaDoor
