/- Merged: PushX, ImRefA. -/
import Derived.Test.YtooclofdljampaaDoorPutText
import Derived.OwnWalk
import Derived.Lib.SliceRun
import Derived.Test.YtooclofdljampaaDoorImLaw2
set_option linter.unusedVariables false
namespace Go.Proofs.YtooclofdljampaaDoor
open Go Go.RowKit

/-- append(s, c) where s is an own row of bytes and c the one byte of a new block, told whole: either the row moves to a new block and no old block is turned, or it stays where it is and no other block is turned. -/
theorem wpList_pushX {ops : Array Oper} {rest : List Oper} {o : Oper} {a : Act} {Q : Exit → Act → World → Prop} (w : World) (hgd : o.guard = none) (s x : Operand)
    (ho : o.op = .call { callee := .builtin .append, args := #[s, x], argTypes := #[30, 30] }) (base : Nat) (v : Value) (bs : List UInt8) (hs : a.eval s = v) (q : Int)
    (hx : a.eval x = .slice (some ⟨w.heap.size, 0, none⟩) 1 1) (how : Own w 5 base v bs) (hbase : base ≤ w.heap.size) (hl : bs.length ≤ 140737488355000) (c : UInt8) (hc : q = c.toNat)
    (hK : ∀ v' w', Own w' 5 base v' (bs ++ [c]) → ((Own w' 5 w.heap.size v' (bs ++ [c]) ∧ Up w w') ∨ (∃ g cap, v = .slice (some ⟨g, 0, none⟩) bs.length cap ∧ v' = .slice (some ⟨g, 0, none⟩) (bs.length + 1) cap ∧ But g w w')) → wpList Tryd.prog ops Q rest (a.put o.dst v') w') :
    wpList Tryd.prog ops Q (o :: rest) a (w.alloc (.cells #[.int .u8 q] 5)) := by
  obtain ⟨i0, hi, hz0, hz1, hz2⟩ := info_parts Tryd.infoU8
  subst hc
  have hnews : ∀ j u, ([B c] : List Value)[j]? = some u → (w.alloc (.cells #[.int .u8 (c.toNat : Int)] 5)).cell? ((⟨w.heap.size, 0, none⟩ : Addr).add j) = some u := by
    intro j u hj
    match j, hj with
    | 0, hj => simp at hj; subst hj; rw [Addr.add_lit, cell_of_row _ _ _ _ _ _ (heap_alloc_new _ _)]; rfl
  have h1c : ∀ u ∈ ([B c] : List Value), u.oneCell' = true := by intro u hu; simp at hu; subst hu; rfl
  have how' : Own (w.alloc (.cells #[.int .u8 (c.toNat : Int)] 5)) 5 base v bs := how.alloc _
  by_cases hroom : ∃ g cap, v = .slice (some ⟨g, 0, none⟩) bs.length cap ∧ bs.length + 1 ≤ cap
  · obtain ⟨g, cap, rfl, hr⟩ := hroom
    have hgl := (World.ownsRow.lt how g rfl).2
    refine wpList_append_fits _ hgd s x 30 ho base 5 i0 1 Tryd.underlying30 hi hz1 g bs.length cap (Bv bs) hs how' ⟨w.heap.size, 0, none⟩ 1 1 [B c] hx rfl hnews h1c hr ?_
    intro w' h1 h2
    refine hK _ w' (by simpa [Own] using h1) (.inr ⟨g, cap, rfl, rfl, ?_⟩)
    exact (But.of_up g (Up.alloc w _)).trans h2
  · refine wpList_plain hgd fun K hKK => ?_
    have hal : Up w (w.alloc (.cells #[.int .u8 (c.toNat : Int)] 5)) := Up.alloc w _
    have hlast : (Bv bs ++ [B c]) = Bv (bs ++ [c]) := by simp
    have hzc : (Value.int IntKind.u8 0).cells.size = 1 := rfl
    rcases how'.2 with ⟨rfl, h0⟩ | ⟨g, cap, cur, rfl, hbg, hg, hnc, hcm, hcs, htake⟩
    · obtain rfl : bs = [] := List.eq_nil_of_length_eq_zero h0
      have hr := run_append_nil (P := Tryd.prog) (w.alloc (.cells #[.int .u8 (c.toNat : Int)] 5)) 30 o.type 5 i0 (.int .u8 0) Tryd.underlying30 hi hz0 ⟨w.heap.size, 0, none⟩ 1 1 [B c] (by rw [hz1]; rfl) hnews (by omega) (by omega) (by rw [hz2]; omega)
      have hge := grownCap_ge (w.alloc (.cells #[.int .u8 (c.toNat : Int)] 5)) 1 0 5
      have hcm2 := grownCap_le_maxLen (w.alloc (.cells #[.int .u8 (c.toNat : Int)] 5)) 1 0 5 (by unfold maxLen; omega)
      unfold Oper.wp execOp
      simp only [ho, resolve, invoke, builtin, Sem.run_bind, Sem.run_pure, Result.andThen_ok, List.map_toArray, List.map_cons, List.map_nil, hs, hx, hr]
      generalize grownCap (w.alloc (.cells #[.int .u8 (c.toNat : Int)] 5)) 1 0 5 = gc at hge hcm2 ⊢
      have hown : ∀ b0, b0 ≤ w.heap.size → Own ((w.alloc (.cells #[.int .u8 (c.toNat : Int)] 5)).drew.alloc (.cells ([B c].toArray ++ Builtin.zeroCells (Value.int IntKind.u8 0).cells (gc - 1)) 5)) 5 b0 (.slice (some ⟨(w.alloc (.cells #[.int .u8 (c.toNat : Int)] 5)).heap.size, 0, none⟩) 1 gc) ([] ++ [c]) := by
        intro b0 hb0
        refine ⟨by simp, .inr ⟨_, gc, _, rfl, ?_, heap_alloc_new _ _, by simpa using hge, hcm2, ?_, by simp⟩⟩
        · simp; omega
        · simp only [Array.size_append, List.size_toArray, size_zeroCells, hzc, List.length_cons, List.length_nil]; omega
      refine hKK _ _ (hK _ _ (hown base hbase) (.inl ⟨hown _ (Nat.le_refl _), ?_⟩))
      exact hal.trans ((Up.drew _).trans (Up.alloc _ _))
    · rw [Nat.mul_one] at hcs htake
      have hfull : cap < bs.length + 1 := by
        apply Classical.byContradiction
        intro h
        exact hroom ⟨g, cap, rfl, by omega⟩
      have holds : ∀ j u, (Bv bs)[j]? = some u → (w.alloc (.cells #[.int .u8 (c.toNat : Int)] 5)).cell? ((⟨g, 0, none⟩ : Addr).add j) = some u := how'.cells (g := g) rfl
      have hr := run_append_grow (P := Tryd.prog) (w.alloc (.cells #[.int .u8 (c.toNat : Int)] 5)) 30 o.type 5 i0 (.int .u8 0) Tryd.underlying30 hi hz0 ⟨g, 0, none⟩ bs.length cap (Bv bs) (by rw [hz1]; simp) holds ⟨w.heap.size, 0, none⟩ 1 1 [B c] (by rw [hz1]; rfl) hnews (by omega) (by omega)
        (by rw [hz2]; exact growslice_fits (by omega) (by omega))
      have hge := grownCap_ge (w.alloc (.cells #[.int .u8 (c.toNat : Int)] 5)) (bs.length + 1) cap 5
      have hcm2 := grownCap_le_maxLen (w.alloc (.cells #[.int .u8 (c.toNat : Int)] 5)) (bs.length + 1) cap 5 (by unfold maxLen; omega)
      unfold Oper.wp execOp
      simp only [ho, resolve, invoke, builtin, Sem.run_bind, Sem.run_pure, Result.andThen_ok, List.map_toArray, List.map_cons, List.map_nil, hs, hx, hr]
      generalize grownCap (w.alloc (.cells #[.int .u8 (c.toNat : Int)] 5)) (bs.length + 1) cap 5 = gc at hge hcm2 ⊢
      have hown : ∀ b0, b0 ≤ w.heap.size → Own ((w.alloc (.cells #[.int .u8 (c.toNat : Int)] 5)).drew.alloc (.cells ((Bv bs).toArray ++ [B c].toArray ++ Builtin.zeroCells (Value.int IntKind.u8 0).cells (gc - (bs.length + 1))) 5)) 5 b0 (.slice (some ⟨(w.alloc (.cells #[.int .u8 (c.toNat : Int)] 5)).heap.size, 0, none⟩) (bs.length + 1) gc) (bs ++ [c]) := by
        intro b0 hb0
        refine ⟨by simp, .inr ⟨_, gc, _, by simp, ?_, heap_alloc_new _ _, by simpa using hge, hcm2, ?_, ?_⟩⟩
        · simp; omega
        · simp only [Array.size_append, List.size_toArray, size_zeroCells, hzc, List.length_map, List.length_cons, List.length_nil]; omega
        · simp only [Array.toList_append, List.append_assoc]
          rw [← List.append_assoc, hlast, Nat.mul_one]
          have e : (Bv (bs ++ [c])).length = (bs ++ [c]).length := by simp
          rw [← e]; exact List.take_left
      refine hKK _ _ (hK _ _ (hown base hbase) (.inl ⟨hown _ (Nat.le_refl _), ?_⟩))
      exact hal.trans ((Up.drew _).trans (Up.alloc _ _))
end Go.Proofs.YtooclofdljampaaDoor

set_option linter.unusedVariables false
set_option linter.unusedSimpArgs false
namespace Go.Proofs.YtooclofdljampaaDoor
open Go Go.RowKit

theorem Box.grown {w w' : World} {k : Nat} {cs : Array Value} {q : Option Nat} (h : Box w k cs) (hg : w.grownBy w' q) (hne : q ≠ some k) : Box w' k cs := by
  have hl := h.lt
  obtain ⟨t, h⟩ := h
  exact ⟨t, by rw [hg.block k hl (fun e => hne e.symm)]; exact h⟩
theorem own_not {w : World} {base k : Nat} {v : Value} {bs : List UInt8} (h : Own w 5 base v bs) (hk : w.heap.size ≤ k) : v.ownBlock ≠ some k := fun e => by
  have := (World.ownsRow.lt h k e).2
  omega
/-- The row v of the world w has become v': which block it lies in, and what has stayed. -/
structure Tl (w w' : World) (base : Nat) (v v' : Value) (bs : List UInt8) : Prop where
  own : Own w' 5 base v' bs
  old : w.grownBy w' v.ownBlock
  blk : ∀ k, v'.ownBlock = some k → k < w.heap.size → v.ownBlock = some k
theorem Tl.start {w : World} {base : Nat} {v : Value} {bs : List UInt8} (h : Own w 5 base v bs) : Tl w w base v v bs := ⟨h, World.grownBy.refl w _, fun _ h _ => h⟩
theorem Tl.trans {w w1 w2 : World} {base : Nat} {v v1 v2 : Value} {bs cs : List UInt8} (h : Tl w w1 base v v1 bs) (k : Tl w1 w2 base v1 v2 cs) : Tl w w2 base v v2 cs := by
  refine ⟨k.own, ⟨k.old.os.trans h.old.os, k.old.tape.trans h.old.tape, k.old.output.trans h.old.output, Nat.le_trans h.old.size k.old.size, fun g hg hne => ?_⟩, fun g hg hlt => h.blk g (k.blk g hg (Nat.lt_of_lt_of_le hlt h.old.size)) hlt⟩
  rw [k.old.block g (Nat.lt_of_lt_of_le hg h.old.size) (fun e => hne (h.blk g e.symm hg).symm), h.old.block g hg hne]
theorem Tl.up {w w1 w2 : World} {base : Nat} {v v1 : Value} {bs : List UInt8} (h : Tl w w1 base v v1 bs) (u : Up w1 w2) : Tl w w2 base v v1 bs :=
  ⟨own_up h.own u, ⟨u.os.trans h.old.os, u.tape.trans h.old.tape, u.output.trans h.old.output, Nat.le_trans h.old.size u.size, fun g hg hne => (u.block g (Nat.lt_of_lt_of_le hg h.old.size)).trans (h.old.block g hg hne)⟩, h.blk⟩
theorem Tl.from {w0 w w1 : World} {base : Nat} {v v1 : Value} {bs bs0 : List UInt8} (u : Up w0 w) (ho : Own w0 5 base v bs0) (h : Tl w w1 base v v1 bs) : Tl w0 w1 base v v1 bs :=
  (Tl.start ho).up u |>.trans h
theorem Tl.below {w w' : World} {base b : Nat} {v v' : Value} {bs cs : List UInt8} (h : Tl w w' base v v' bs) (ho : Own w 5 b v cs) (hb : base ≤ b) (hs : base ≤ w.heap.size) : Below base w w' :=
  (Below.refl base w).grown h.old hs (fun k hk => Nat.le_trans hb (World.ownsRow.lt ho k hk).1)
theorem Tl.box {w w' : World} {base k : Nat} {v v' : Value} {bs : List UInt8} {cs : Array Value} (h : Tl w w' base v v' bs) (b : Box w k cs) (hne : v.ownBlock ≠ some k) : Box w' k cs := b.grown h.old hne
/-- One byte more, in those words. -/
theorem wpList_pushT {ops : Array Oper} {rest : List Oper} {o : Oper} {a : Act} {Q : Exit → Act → World → Prop} (w : World) (hgd : o.guard = none) (s x : Operand)
    (ho : o.op = .call { callee := .builtin .append, args := #[s, x], argTypes := #[30, 30] }) (base k : Nat) (v : Value) (bs : List UInt8) (hs : a.eval s = v) (q : Int) (hk : w.heap.size = k)
    (hx : a.eval x = .slice (some ⟨k, 0, none⟩) 1 1) (how : Own w 5 base v bs) (hbase : base ≤ w.heap.size) (hl : bs.length ≤ 140737488355000) (c : UInt8) (hc : q = c.toNat)
    (hK : ∀ v' w', Tl w w' base v v' (bs ++ [c]) → wpList Tryd.prog ops Q rest (a.put o.dst v') w') :
    wpList Tryd.prog ops Q (o :: rest) a (w.alloc (.cells #[.int .u8 q] 5)) := by
  subst hk
  refine wpList_pushX w hgd s x ho base v bs hs q hx how hbase hl c hc (fun v' w' h1 h2 => hK v' w' ⟨h1, ?_, ?_⟩)
  · rcases h2 with ⟨_, u⟩ | ⟨g, cap, rfl, rfl, hb⟩
    · exact ⟨u.os, u.tape, u.output, u.size, fun g hg _ => u.block g hg⟩
    · exact hb
  · intro g hg hlt
    rcases h2 with ⟨ho, _⟩ | ⟨g', cap, rfl, rfl, hb⟩
    · exact absurd (World.ownsRow.lt ho g hg).1 (by omega)
    · exact hg

set_option maxRecDepth 20000 in
set_option maxHeartbeats 400000 in
theorem qPut_any (base : Nat) (v : Value) (bs : List UInt8) (x n : Nat) (w : World) (hs : Own w 5 base v bs) (hb : base ≤ w.heap.size) (hl : bs.length ≤ 140737488351232) (hn : n ≤ 8) (hx : x < 2 ^ 64) :
    Calls Tryd.prog 34 #[v, .int .u64 x, .int .i64 n] w fun e w' => ∃ v', e = .returned v' ∧ Tl w w' base v v' (bs ++ bl n x) := by
  rw [← le_blR]
  go_enter Tryd.func34, Tryd.ntmps34
  go_wp2
  go_loopg [0, 1, 7] n (fun g s y i wr => ∃ k : Nat, k ≤ n ∧ n - k = g ∧ i = .int .i64 k ∧ y = .int .u64 ((x / 256 ^ k : Nat) : Int) ∧ Hid (Tl w wr base v s (bs ++ le k x)))
  case atStart => exact ⟨0, Nat.zero_le _, rfl, rfl, by simp, by show Tl w w base v v (bs ++ le 0 x); simpa [le] using Tl.start hs⟩
  case round =>
    obtain ⟨k, hk, rfl, rfl, rfl, HR⟩ := hrel
    by_cases hlt : k < n
    · have Hlt : Hid (k < n) := hlt
      have hst : x / 256 ^ (k + 1) = x / 256 ^ k / 256 := by rw [Nat.pow_succ, ← Nat.div_div_eq_div_mul]
      have Hst := show Hid _ from hst
      have hle := le_snoc k x
      have Hle := show Hid _ from hle
      obtain ⟨y, hy⟩ : ∃ y, x / 256 ^ k = y := ⟨_, rfl⟩
      rw [hy] at Hst Hle ⊢
      have hy64 : y < 18446744073709551616 := by rw [← hy]; exact Nat.lt_of_le_of_lt (Nat.div_le_self _ _) (by omega)
      have hyi : (y : Int) < 18446744073709551616 := by omega
      have hy0 : (0 : Int) ≤ (y : Int) := by omega
      clear hst hle hy hy64
      go_wp2_with (at_builtin; refine wpList_pushT _ rfl (.tmp 13) (.tmp 17) rfl base _ _ _ rfl _ rfl rfl HR.out.own ?hb ?hl (UInt8.ofNat y) ?hc ?_)
      case hb => have := HR.out.old.size; omega
      case hl => have := le_length k x; simp; omega
      case hc => rw [UInt8.toNat_ofNat']; omega
      intro v' w' ht
      have H5 : Hid (Tl w w' base v v' (bs ++ le (k + 1) x)) := by
        show Tl w w' base v v' (bs ++ le (k + 1) x)
        rw [Hle.out]
        exact HR.out.trans ht
      clear HR ht
      go_wp2
      go_roundg (n - (k + 1))
      case measure => have := Hlt.out; omega
      case rel => exact ⟨k + 1, Hlt.out, rfl, by go_num, by rw [Hst.out]; simp, H5⟩
    · obtain rfl : k = n := by omega
      have h := HR.out
      clear HR
      go_wp2
      go_ret
      exact ⟨_, rfl, h⟩

set_option maxRecDepth 20000 in
set_option maxHeartbeats 800000 in
theorem qPutText_any (base : Nat) (v : Value) (bs : List UInt8) (s : ByteArray) (w : World) (hs : Own w 5 base v bs) (hb : base ≤ w.heap.size) (hl : Hid (bs.length ≤ 1000000)) (hn : (s.size : Int) ≤ 64) :
    Calls Tryd.prog 35 #[v, .string s] w fun e w' => ∃ v', e = .returned v' ∧ Tl w w' base v v' (bs ++ bl 2 s.size ++ Sb s) := by
  go_enter Tryd.func35, Tryd.ntmps35
  go_wp2_with fail
  refine (qPut_any base v bs s.size 2 _ hs hb (by have := hl.out; omega) (by omega) (by show s.size < 2 ^ 64; omega)).mono ?_
  rintro e w1 ⟨v1, rfl, T1⟩
  have hlen : (bs ++ bl 2 s.size).length = bs.length + 2 := by rw [List.length_append, bl_length]
  obtain ⟨ps, hps⟩ : ∃ ps, ps = bs ++ bl 2 s.size := ⟨_, rfl⟩
  rw [← hps] at T1 hlen
  have Hps : Hid (ps = bs ++ bl 2 s.size ∧ ps.length = bs.length + 2) := ⟨hps, hlen⟩
  clear hps hlen
  go_wp2_with fail
  go_loopw [0, 5] (fun x i wr => ∃ k : Nat, k ≤ s.size ∧ i = .int .i64 k ∧ Tl w wr base v x (ps ++ (Sb s).take k)) (fun _ i _ => s.size - (intOf i).toNat)
  case atStart => exact ⟨0, Nat.zero_le _, rfl, by simpa using T1⟩
  case round =>
    obtain ⟨k, hk, rfl, ht⟩ := hrel
    by_cases hlt : k < s.size
    · have hsb : (Sb s).take (k + 1) = (Sb s).take k ++ [s[k]'hlt] := by
        rw [List.take_succ_eq_append_getElem (by rw [Sb_len]; exact hlt)]; rfl
      have Hsb : Hid _ := hsb
      clear hsb
      go_wp2_with (at_builtin; refine wpList_pushT _ rfl (.tmp 17) (.tmp 21) rfl base _ _ _ rfl _ rfl rfl ht.own ?hb ?hl (s[k]'hlt) ?hc ?_)
      case hb => have := ht.old.size; omega
      case hl => simp only [List.length_append, List.length_take, Sb_len]; have := Hps.out.2; have := hl.out; omega
      case hc => first | rfl | simp
      intro v' w' ht'
      go_wp2
      go_roundw
      case rel =>
        refine ⟨k + 1, by omega, by go_num, ?_⟩
        rw [Hsb.out]
        exact ht.trans ht'
      case measure => simp [intOf]; omega
    · obtain rfl : k = s.size := by omega
      have hall : Hid ((Sb s).take s.size = Sb s) := by show _ = _; rw [← Sb_len, List.take_length]
      rw [hall.out] at ht
      go_wp2
      go_ret
      rw [Hps.out.1] at ht
      exact ⟨_, rfl, ht⟩

set_option maxRecDepth 20000 in
set_option maxHeartbeats 800000 in
theorem qPutPolicy_1 (base : Nat) (v : Value) (bs : List UInt8) (g s l p : Nat) (w : World) (ho : Own w 5 base v bs) (hb : base ≤ w.heap.size) (hl : Hid (bs.length ≤ 1000000)) (hg : Hid (g < 2 ^ 64)) (hs : Hid (s < 2 ^ 64)) :
    Calls Tryd.prog 36 #[v, Pv 1 g s l p] w fun e w' => ∃ v', e = .returned v' ∧ Tl w w' base v v' (bs ++ (bl 1 1 ++ (bl 8 g ++ bl 8 s))) := by
  have HH : Hid (Own w 5 base v bs ∧ base ≤ w.heap.size) := ⟨ho, hb⟩
  have Hu : Hid (Up w (w.alloc (.cells #[.int .i64 1, V g, V s, V l, V p] 46))) := Up.alloc _ _
  have Hn : Hid (v.ownBlock ≠ some w.heap.size) := own_not ho (Nat.le_refl _)
  have b0 : Box (w.alloc (.cells #[.int .i64 1, V g, V s, V l, V p] 46)) w.heap.size #[.int .i64 1, V g, V s, V l, V p] := Box.new _ _ _
  clear ho hb
  go_enter Tryd.func36, Tryd.ntmps36
  go_wp2_with (at_builtin; refine wpList_pushT (w.alloc (.cells #[.int .i64 1, V g, V s, V l, V p] 46)) rfl (.tmp 5) (.tmp 9) rfl base (w.heap.size + 1) _ _ rfl _ (by simp) rfl (own_up HH.out.1 Hu.out) (by have := HH.out.2; simp; omega) (by have := hl.out; omega) 1 rfl ?_)
  intro v2 w2 T2
  have b2 := T2.box b0 Hn.out
  have z2 : base ≤ w2.heap.size := Nat.le_trans HH.out.2 (Nat.le_trans Hu.out.size T2.old.size)
  have zb := b2.lt
  obtain ⟨c0, c1, c2, c3, c4⟩ := b2.c5
  have l2 : Hid ((bs ++ [1]).length ≤ 1000001) := by show (bs ++ [(1 : UInt8)]).length ≤ 1000001; rw [List.length_append]; have := hl.out; simp; omega
  have l3 : Hid (((bs ++ [1]) ++ bl 8 g).length ≤ 1000009) := by show ((bs ++ [(1 : UInt8)]) ++ bl 8 g).length ≤ 1000009; rw [List.length_append, bl_length]; have := l2.out; omega
  go_wp2_with fail
  refine (qPut_any base v2 _ g 8 _ T2.own z2 (by have := l2.out; omega) (by omega) hg.out).mono ?_
  rintro e w3 ⟨v3, rfl, T3'⟩
  have T3 := T2.trans T3'
  have b3 := T3.box b0 Hn.out
  have z3 : base ≤ w3.heap.size := Nat.le_trans z2 T3'.old.size
  clear T3' b2 c0 c1 c2 c3 c4 z2 zb T2
  have zb := b3.lt
  obtain ⟨c0, c1, c2, c3, c4⟩ := b3.c5
  go_wp2_with fail
  refine (qPut_any base v3 _ s 8 _ T3.own z3 (by have := l3.out; omega) (by omega) hs.out).mono ?_
  rintro e w4 ⟨v4, rfl, T4'⟩
  have T4 := Tl.from Hu.out HH.out.1 (T3.trans T4')
  rw [List.append_assoc, List.append_assoc] at T4
  clear T4' b3 c0 c1 c2 c3 c4 T3 b0
  go_wp2
  go_ret
  exact ⟨_, rfl, T4⟩

set_option maxRecDepth 20000 in
set_option maxHeartbeats 800000 in
theorem qPutPolicy_2 (base : Nat) (v : Value) (bs : List UInt8) (g s l p : Nat) (w : World) (ho : Own w 5 base v bs) (hb : base ≤ w.heap.size) (hl : Hid (bs.length ≤ 1000000)) (hg : Hid (l < 2 ^ 64)) (hs : Hid (p < 2 ^ 64)) :
    Calls Tryd.prog 36 #[v, Pv 2 g s l p] w fun e w' => ∃ v', e = .returned v' ∧ Tl w w' base v v' (bs ++ (bl 1 2 ++ (bl 8 l ++ bl 8 p))) := by
  have HH : Hid (Own w 5 base v bs ∧ base ≤ w.heap.size) := ⟨ho, hb⟩
  have Hu : Hid (Up w (w.alloc (.cells #[.int .i64 2, V g, V s, V l, V p] 46))) := Up.alloc _ _
  have Hn : Hid (v.ownBlock ≠ some w.heap.size) := own_not ho (Nat.le_refl _)
  have b0 : Box (w.alloc (.cells #[.int .i64 2, V g, V s, V l, V p] 46)) w.heap.size #[.int .i64 2, V g, V s, V l, V p] := Box.new _ _ _
  clear ho hb
  go_enter Tryd.func36, Tryd.ntmps36
  go_wp2_with (at_builtin; refine wpList_pushT (w.alloc (.cells #[.int .i64 2, V g, V s, V l, V p] 46)) rfl (.tmp 5) (.tmp 9) rfl base (w.heap.size + 1) _ _ rfl _ (by simp) rfl (own_up HH.out.1 Hu.out) (by have := HH.out.2; simp; omega) (by have := hl.out; omega) 2 rfl ?_)
  intro v2 w2 T2
  have b2 := T2.box b0 Hn.out
  have z2 : base ≤ w2.heap.size := Nat.le_trans HH.out.2 (Nat.le_trans Hu.out.size T2.old.size)
  have zb := b2.lt
  obtain ⟨c0, c1, c2, c3, c4⟩ := b2.c5
  have l2 : Hid ((bs ++ [2]).length ≤ 1000001) := by show (bs ++ [(2 : UInt8)]).length ≤ 1000001; rw [List.length_append]; have := hl.out; simp; omega
  have l3 : Hid (((bs ++ [2]) ++ bl 8 l).length ≤ 1000009) := by show ((bs ++ [(2 : UInt8)]) ++ bl 8 l).length ≤ 1000009; rw [List.length_append, bl_length]; have := l2.out; omega
  go_wp2_with fail
  refine (qPut_any base v2 _ l 8 _ T2.own z2 (by have := l2.out; omega) (by omega) hg.out).mono ?_
  rintro e w3 ⟨v3, rfl, T3'⟩
  have T3 := T2.trans T3'
  have b3 := T3.box b0 Hn.out
  have z3 : base ≤ w3.heap.size := Nat.le_trans z2 T3'.old.size
  clear T3' b2 c0 c1 c2 c3 c4 z2 zb T2
  have zb := b3.lt
  obtain ⟨c0, c1, c2, c3, c4⟩ := b3.c5
  go_wp2_with fail
  refine (qPut_any base v3 _ p 8 _ T3.own z3 (by have := l3.out; omega) (by omega) hs.out).mono ?_
  rintro e w4 ⟨v4, rfl, T4'⟩
  have T4 := Tl.from Hu.out HH.out.1 (T3.trans T4')
  rw [List.append_assoc, List.append_assoc] at T4
  clear T4' b3 c0 c1 c2 c3 c4 T3 b0
  go_wp2
  go_ret
  exact ⟨_, rfl, T4⟩
end Go.Proofs.YtooclofdljampaaDoor
