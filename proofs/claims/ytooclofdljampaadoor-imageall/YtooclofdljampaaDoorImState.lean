/- image: what takeState answers (laid by genState.py). Own work. -/
import Derived.Test.YtooclofdljampaaDoorImTake
import Derived.Test.YtooclofdljampaaDoorStValid
import Derived.Test.YtooclofdljampaaDoorHeldTo
import Derived.Deep.DeepAppendWide
set_option linter.unusedVariables false
set_option linter.unusedSimpArgs false
namespace Go.Proofs.YtooclofdljampaaDoor
open Go Go.RowKit

theorem Tryd.infoEntI : (Tryd.prog.info? 50).map (fun i => (i.zero, i.size, i.bytes)) = some (some (.agg #[.string ⟨#[]⟩, .int .i64 0, .int .u64 0, .int .u64 0, .int .u64 0, .int .u64 0, .int .u64 0, .int .u64 0, .int .u64 0]), 9, 80) := by kernel_rfl
theorem U32_S {B : Nat} {w : World} {r : Nat} {aS aF : Addr} {st : Option (List UInt8)} (h : RdS B w r aS aF st) :
    Calls Tryd.prog 47 #[.pointer (some ⟨r, 0, none⟩)] w fun e w' => e = .returned (.int .u32 ((rdA 4 st).1 : Nat)) ∧ RdS B w' r aS aF (rdA 4 st).2 ∧ But r w w' := by
  obtain ⟨bs, fv, hf, hr, e1, hk⟩ := h.whole 4
  refine (U32_anyP _ r bs fv aS w hr hf h.gs).mono ?_
  rintro e w' ⟨rfl, k1, k2⟩
  exact ⟨by rw [e1], h.read k2 (hk w' k1), k2⟩
theorem Left_S {B : Nat} {w : World} {r : Nat} {aS aF : Addr} {bs : List UInt8} (h : RdS B w r aS aF (some bs)) :
    Calls Tryd.prog 50 #[.pointer (some ⟨r, 0, none⟩)] w fun e w' => e = .returned (.int .i64 (bs.length : Nat)) ∧ w' = w := Left_anyP _ r bs _ w h.rd
theorem wp_pushE {o : Oper} {a : Act} {K : Act → World → Prop} {Q : Exit → Act → World → Prop} (w : World) (s x : Operand)
    (ho : o.op = .call { callee := .builtin .append, args := #[s, x], argTypes := #[27, 27] }) (base nb : Nat) (v : Value) (xs : List Ent) (y : Ent) (hs : a.eval s = v)
    (hx : a.eval x = .slice (some ⟨nb, 0, none⟩) 1 1) (how : OwnE w base v xs) (hb : Box w nb (EC y).toArray) (hbase : base ≤ w.heap.size) (hl : xs.length ≤ 1000000)
    (hK : ∀ v' w', OwnE w' base v' (xs ++ [y]) → w.grownBy w' v.ownBlock → K (a.put o.dst v') w') : o.wp Tryd.prog a w K Q := by
  obtain ⟨i0, hi, hz0, hz1, hz2⟩ := info_parts Tryd.infoEntI
  refine wp_append_own_wide w s x 27 ho base 50 i0 _ 9 80 Tryd.underlying27 hi hz0 hz1 hz2 rfl (by decide) v xs.length (Ecs xs) hs how ⟨nb, 0, none⟩ 1 1 (EC y) hx rfl ?_ (fun u hu => Ecs_one [y] u (by rw [Ecs_cons, Ecs_nil, List.append_nil]; exact hu)) ?_ ?_ hbase ?_
  · intro j u hj
    rw [Addr.add_lit, Nat.zero_add, hb.cell j]
    simpa using hj
  · unfold maxLen; omega
  · omega
  · intro v' w' h1 h2 _
    exact hK v' w' (by unfold OwnE; rw [List.length_append, Ecs_app, Ecs_cons, Ecs_nil, List.append_nil]; exact h1) h2

/-- What takeState keeps. -/
structure Ts (B : Nat) (w0 w : World) (r : Nat) (aS aF : Addr) (rest : List UInt8) (k l f : Nat) (vk : Value) (es : List Ent) : Prop where
  rd : RdS B w r aS aF (some rest)
  but : But r w0 w
  out : ∃ p0 p1 p2, Box w w0.heap.size #[p0, p1, p2]
  bx : Box w k #[V l, V f, vk]
  own : OwnE w (k + 1) vk es
  lk : w0.heap.size < k
  lr : r < w0.heap.size
  lb : B ≤ w0.heap.size
theorem Ts.read {B : Nat} {w0 w w' : World} {r : Nat} {aS aF : Addr} {rest rest' : List UInt8} {k l f : Nat} {vk : Value} {es : List Ent} (h : Ts B w0 w r aS aF rest k l f vk es) (hr : RdS B w' r aS aF (some rest')) (hb : But r w w') : Ts B w0 w' r aS aF rest' k l f vk es := by
  have h1 := h.lk
  have h2 := h.lr
  obtain ⟨p0, p1, p2, ho⟩ := h.out
  refine ⟨hr, h.but.trans hb, ⟨p0, p1, p2, ho.but hb (by omega)⟩, h.bx.but hb (by omega), h.own.kept (Touch.of_grown hb (S := [r]) (fun j e => by cases e; simp)) (fun j hj => ?_), h1, h2, h.lb⟩
  have := (h.own.ge j hj).1
  simp only [List.mem_singleton]
  omega
theorem Ts.up {B : Nat} {w0 w w' : World} {r : Nat} {aS aF : Addr} {rest : List UInt8} {k l f : Nat} {vk : Value} {es : List Ent} (h : Ts B w0 w r aS aF rest k l f vk es) (u : Up w w') : Ts B w0 w' r aS aF rest k l f vk es := by
  obtain ⟨p0, p1, p2, ho⟩ := h.out
  exact ⟨h.rd.below (u.mono h.rd.sz), h.but.trans (But.of_up r u), ⟨p0, p1, p2, ho.up u⟩, h.bx.up u, h.own.up u, h.lk, h.lr, h.lb⟩
theorem Ts.grow {B : Nat} {w0 w w1 : World} {r : Nat} {aS aF : Addr} {rest : List UInt8} {k l f : Nat} {vk v1 : Value} {es ys : List Ent} (h : Ts B w0 w r aS aF rest k l f vk es) (g : w.grownBy w1 vk.ownBlock) (o : OwnE w1 (k + 1) v1 ys) :
    Box w1 k #[V l, V f, vk] ∧ Ts B w0 (w1.setCell ⟨k, 2, none⟩ v1) r aS aF rest k l f v1 ys := by
  have h1 := h.lk
  have h2 := h.lr
  have h3 := h.lb
  have t : Touch w w1 (ob vk) := Touch.of_grown g (fun j e => mem_ob.2 e)
  have hge : ∀ j ∈ ob vk, k + 1 ≤ j := fun j hj => (h.own.ge j hj).1
  have b1 : Box w1 k #[V l, V f, vk] := Touch.box h.bx t (fun hm => by have := hge k hm; omega)
  obtain ⟨p0, p1, p2, ho⟩ := h.out
  have o1 : Box w1 w0.heap.size #[p0, p1, p2] := Touch.box ho t (fun hm => by have := hge _ hm; omega)
  have hz := h.but.size
  refine ⟨b1, ?_, ?_, ⟨p0, p1, p2, o1.other (by omega) 2 v1⟩, b1.set 2 v1, ?_, h1, h2, h3⟩
  · have hb : Below B w w1 := t.below (fun j hj => by have := hge j hj; omega) h.rd.sz
    exact (h.rd.below hb).setI (by omega) 2 v1
  · refine But.setI (r := r) (w := w0) (w4 := w1) ⟨g.os.trans h.but.os, g.tape.trans h.but.tape, g.output.trans h.but.output, Nat.le_trans hz g.size, fun j hj hne => ?_⟩ (by omega) 2 v1
    exact (t.block j (by omega) (fun hm => by have := hge j hm; omega)).trans (h.but.block j hj hne)
  · exact o.kept (Touch.setCell (Touch.refl w1 [k]) (.inl (by simp)) 2 v1) (fun j hj => by have := (o.ge j hj).1; simp only [List.mem_singleton]; omega)

/-- What takeState answers, or gives up with. -/
def TsE (base : Nat) (w' : World) (aS aF : Addr) (e : Ending) : Except ImE StV → Prop
  | .error .short => e = Pan aS
  | .error _ => e = Pan aF
  | .ok s => ∃ vk, e = .returned (.agg #[V s.lsn, V s.floor, vk]) ∧ OwnE w' base vk s.keys
def fin (l f : Nat) : Except ImE (List Ent × List UInt8) → Except ImE StV
  | .error e => .error e
  | .ok (es, r) => if r ≠ [] ∨ okS ⟨l, f, es⟩ = false then .error .form else .ok ⟨l, f, es⟩
theorem fin_bad {l f : Nat} {es : List Ent} {r : List UInt8} (h : r ≠ [] ∨ okS ⟨l, f, es⟩ = false) : fin l f (.ok (es, r)) = .error .form := by
  show (if r ≠ [] ∨ okS ⟨l, f, es⟩ = false then _ else _) = _
  rw [if_pos h]
theorem fin_ok {l f : Nat} {es : List Ent} (h : okS ⟨l, f, es⟩ = true) : fin l f (.ok (es, [])) = .ok ⟨l, f, es⟩ := by
  show (if ([] : List UInt8) ≠ [] ∨ okS ⟨l, f, es⟩ = false then _ else _) = _
  rw [if_neg (by rw [h]; simp)]
def more (es : List Ent) : Except ImE (List Ent × List UInt8) → Except ImE (List Ent × List UInt8)
  | .error e => .error e
  | .ok (xs, r) => .ok (es ++ xs, r)
theorem more_nil (d : Except ImE (List Ent × List UInt8)) : more [] d = d := by
  cases d with
  | error e => rfl
  | ok p => rfl
theorem more_step {n : Nat} {bs b1 : List UInt8} {x : Ent} (es : List Ent) (h : entD bs = .ok (x, b1)) : more es (rowsD (n + 1) bs) = more (es ++ [x]) (rowsD n b1) := by
  rw [rowsD, h]
  simp only
  generalize rowsD n b1 = d
  cases d with
  | error e => rfl
  | ok p => simp [more]
theorem innD_fin (bs : List UInt8) (h : ¬ 4096 < lb ((bs.drop 16).take 4)) : innD bs = fin (lb (bs.take 8)) (lb ((bs.drop 8).take 8)) (rowsD (lb ((bs.drop 16).take 4)) (bs.drop 20)) := by
  unfold innD
  rw [if_neg h]
  generalize rowsD _ _ = d
  cases d with
  | error e => rfl
  | ok p => rfl

set_option maxRecDepth 20000 in
set_option maxHeartbeats 6400000 in
theorem takeState_rows {B : Nat} {w : World} {r : Nat} {aS aF : Addr} {l f N : Nat} {st s1 s2 : Option (List UInt8)} {b3 : List UInt8} (h : RdS B w r aS aF st) (e1 : rdA 8 st = (l, s1)) (e2 : rdA 8 s1 = (f, s2)) (e3 : rdA 4 s2 = (N, some b3)) (hN : N ≤ 4096) :
    Calls Tryd.prog 30 #[.pointer (some ⟨r, 0, none⟩)] w fun e w' => TsE w.heap.size w' aS aF e (fin l f (rowsD N b3)) ∧ But r w w' := by
  have k1 : ∀ u, RdS B u r aS aF st → Calls Tryd.prog 46 #[.pointer (some ⟨r, 0, none⟩)] u fun e w' => e = .returned (V l) ∧ RdS B w' r aS aF s1 ∧ But r u w' := fun u hu => by
    have := U64_S hu; rw [e1] at this; exact this
  have k2 : ∀ u, RdS B u r aS aF s1 → Calls Tryd.prog 46 #[.pointer (some ⟨r, 0, none⟩)] u fun e w' => e = .returned (V f) ∧ RdS B w' r aS aF s2 ∧ But r u w' := fun u hu => by
    have := U64_S hu; rw [e2] at this; exact this
  have k3 : ∀ u, RdS B u r aS aF s2 → Calls Tryd.prog 47 #[.pointer (some ⟨r, 0, none⟩)] u fun e w' => e = .returned (.int .u32 (N : Nat)) ∧ RdS B w' r aS aF (some b3) ∧ But r u w' := fun u hu => by
    have := U32_S hu; rw [e3] at this; exact this
  obtain ⟨R, hR⟩ : ∃ R, rowsD N b3 = R := ⟨_, rfl⟩
  rw [hR]
  have HR : Hid (R = more [] (rowsD (N - 0) b3)) := by show _ = _; rw [more_nil, Nat.sub_zero, hR]
  have hN1 : ¬ (4096 : Int) < (N : Int) := by omega
  have hN2 : ¬ 4096 < N := by omega
  have hN3 : (N : Int) ≤ 4096 := by omega
  clear e1 e2 e3 hR
  have u0 : Up w (w.alloc (.cells #[V 0, V 0, .slice none 0 0] 29)) := Up.alloc _ _
  have b0 : Box (w.alloc (.cells #[V 0, V 0, .slice none 0 0] 29)) w.heap.size #[V 0, V 0, .slice none 0 0] := Box.new _ _ _
  have hA : RdS B (w.alloc (.cells #[V 0, V 0, .slice none 0 0] 29)) r aS aF st := h.below (u0.mono h.sz)
  have g0 := But.of_up r u0
  have hlt : r < w.heap.size := Nat.lt_of_lt_of_le h.lt h.sz
  have hlb := h.sz
  go_enter Tryd.func30, Tryd.ntmps30
  go_wp2_with fail
  refine (k1 _ hA).mono ?_
  rintro e w1 ⟨rfl, h1, g1⟩
  go_wp2_with fail
  refine (k2 _ h1).mono ?_
  rintro e w2 ⟨rfl, h2, g2⟩
  have gA := (g0.trans g1).trans g2
  have bo := (b0.but g1 (by omega)).but g2 (by omega)
  have T0 : Ts B w (w2.alloc (.cells #[V l, V f, .slice none 0 0] 29)) r aS aF [] w2.heap.size l f (.slice none 0 0) [] → True := fun _ => trivial
  have u3 : Up w2 (w2.alloc (.cells #[V l, V f, .slice none 0 0] 29)) := Up.alloc _ _
  have bk : Box (w2.alloc (.cells #[V l, V f, .slice none 0 0] 29)) w2.heap.size #[V l, V f, .slice none 0 0] := Box.new _ _ _
  have h3 := h2.below (u3.mono h2.sz)
  have hk : w.heap.size < w2.heap.size := by have := bo.lt; omega
  go_wp2_with fail
  refine (k3 _ h3).mono ?_
  rintro e w4 ⟨rfl, h4, g4⟩
  have HT : Hid (Ts B w w4 r aS aF b3 w2.heap.size l f (.slice none 0 0) []) := ⟨h4, (gA.trans (But.of_up r u3)).trans g4, ⟨_, _, _, (bo.up u3).but g4 (by omega)⟩, bk.but g4 (by omega), OwnE.nil _ _, hk, hlt, hlb⟩
  clear h1 h2 h3 h4 g1 g2 g4 gA g0 u0 u3 bo bk hA b0 T0 k1 k2 k3 h hlt hlb hk
  generalize w2.heap.size = k at *
  go_wp2
  go_loopg [17] N (fun g s17 wr => ∃ (i : Nat) (rest : List UInt8) (vk : Value) (es : List Ent), i ≤ N ∧ g = N - i ∧ s17 = .int .u32 (i : Nat) ∧ Hid (Ts B w wr r aS aF rest k l f vk es) ∧ (Hid (R = more es (rowsD (N - i) rest) ∧ es.length = i)))
  case atStart => exact ⟨0, b3, .slice none 0 0, [], by omega, rfl, rfl, HT, HR.out, rfl⟩
  case round =>
    clear HT HR
    obtain ⟨i, rest, vk, es, hi, rfl, rfl, HT, HR⟩ := hrel
    by_cases hlt : i < N
    · have HN : Hid (es.length ≤ 1000000 ∧ i + 1 ≤ N) := ⟨by have := HR.out.2; omega, hlt⟩
      have hlt' : (i : Int) < (N : Int) := by omega
      have hcall0 := fun u (hu : RdS B u r aS aF (some rest)) => takeEntry_any hu
      obtain ⟨D, hD⟩ : ∃ D, entD rest = D := ⟨_, rfl⟩
      have hn : N - i = (N - (i + 1)) + 1 := by omega
      rw [hD] at hcall0
      cases D with
      | error x =>
        have hfin : R = .error x := by
          rw [HR.out.1, hn, rowsD, hD]; rfl
        subst hfin
        have hcall : ∀ u, RdS B u r aS aF (some rest) → Calls Tryd.prog 49 #[.pointer (some ⟨r, 0, none⟩)] u fun e w' => e = Pan (if x = .short then aS else aF) ∧ But r u w' := fun u hu => by
          refine (hcall0 u hu).mono ?_
          rintro e w' ⟨h1, h2⟩
          refine ⟨?_, h2⟩
          cases x with
          | short => exact h1
          | form => exact h1
          | sum => exact h1
        have HP : Hid (∀ u, TsE w.heap.size u aS aF (Pan (if x = .short then aS else aF)) (fin l f (.error x))) := by
          show ∀ u, TsE _ _ _ _ _ _
          intro u
          cases x <;> rfl
        clear hcall0 hD hn hi
        obtain ⟨A, hA⟩ : ∃ A, (if x = .short then aS else aF) = A := ⟨_, rfl⟩
        rw [hA] at hcall HP
        clear hA
        go_upto_region 7 with fail
        have T0 := HT.out.up (Up.drew wr)
        refine wp_region_held_drew (S := fun _ => True) (by kernel_rfl) trivial (fun hs0 => ?_)
        clear hs0
        generalize wr.drew = wd at *
        refine take_to (some 19) (i := 0) (v := .pointer (some ⟨k, 2, none⟩)) rfl rfl (by kernel_rfl) (by kernel_rfl) (by kernel_rfl) (fun _ _ _ h => h) (Or.inl ⟨by kernel_rfl, by intro u hSu; go_simp⟩) trivial ?_
        simp only [Act.put, List.setIfInBounds_toArray, List.set_cons_zero, List.set_cons_succ]
        refine take_to (some 21) (i := 2) (v := .pointer (some ⟨r, 0, none⟩)) rfl rfl (by kernel_rfl) (by kernel_rfl) (by kernel_rfl) (fun _ _ _ h => h) (Or.inl ⟨by kernel_rfl, by intro u hSu; go_simp⟩) trivial ?_
        simp only [Act.put, List.setIfInBounds_toArray, List.set_cons_zero, List.set_cons_succ]
        refine wpAnyH_ready (rs := [1, 3]) (by kernel_rfl) (by simp) ?_
        refine AllReadyH.cons rfl (fun K hK => ?_) (AllReadyH.cons rfl (fun K hK => ?_) AllReadyH.nil)
        · obtain ⟨c0, c1, c2⟩ := T0.bx.c3
          go_simp
          refine hK.out _ _ trivial (fun _ => ?_)
          clear hK K c0 c1 c2
          refine wpAnyH_ready (rs := [3]) (by kernel_rfl) (by simp) ?_
          refine AllReadyH.cons rfl (fun K hK => ?_) AllReadyH.nil
          go_simp
          refine (hcall _ T0.rd).mono ?_
          rintro e w1 ⟨rfl, g1⟩
          exact ⟨rfl, HP.out _, T0.but.trans g1⟩
        · go_simp
          refine (hcall _ T0.rd).mono ?_
          rintro e w1 ⟨rfl, g1⟩
          exact ⟨rfl, HP.out _, T0.but.trans g1⟩
      | ok p =>
        obtain ⟨x, b1⟩ := p
        have hcall : ∀ u, RdS B u r aS aF (some rest) → Calls Tryd.prog 49 #[.pointer (some ⟨r, 0, none⟩)] u fun e w' => (e = .returned (EV x) ∧ RdS B w' r aS aF (some b1)) ∧ But r u w' := fun u hu => hcall0 u hu
        have HX : Hid (R = more (es ++ [x]) (rowsD (N - (i + 1)) b1) ∧ (es ++ [x]).length = i + 1) := ⟨by rw [HR.out.1, hn, more_step es hD], by simp [HR.out.2]⟩
        clear hcall0 hD hn hi HR
        go_upto_region 7 with fail
        have T0 := HT.out.up (Up.drew wr)
        refine wp_region_held_drew (S := fun _ => True) (by kernel_rfl) trivial (fun hs0 => ?_)
        clear hs0
        generalize wr.drew = wd at *
        refine take_to (some 19) (i := 0) (v := .pointer (some ⟨k, 2, none⟩)) rfl rfl (by kernel_rfl) (by kernel_rfl) (by kernel_rfl) (fun _ _ _ h => h) (Or.inl ⟨by kernel_rfl, by intro u hSu; go_simp⟩) trivial ?_
        simp only [Act.put, List.setIfInBounds_toArray, List.set_cons_zero, List.set_cons_succ]
        refine take_to (some 21) (i := 2) (v := .pointer (some ⟨r, 0, none⟩)) rfl rfl (by kernel_rfl) (by kernel_rfl) (by kernel_rfl) (fun _ _ _ h => h) (Or.inl ⟨by kernel_rfl, by intro u hSu; go_simp⟩) trivial ?_
        simp only [Act.put, List.setIfInBounds_toArray, List.set_cons_zero, List.set_cons_succ]
        refine wpAnyH_ready (rs := [1, 3]) (by kernel_rfl) (by simp) ?_
        refine AllReadyH.cons rfl (fun K hK => ?_) (AllReadyH.cons rfl (fun K hK => ?_) AllReadyH.nil)
        · obtain ⟨c0, c1, c2⟩ := T0.bx.c3
          go_simp
          refine hK.out _ _ trivial (fun _ => ?_)
          clear hK K c0 c1 c2
          try simp only [Act.put, List.setIfInBounds_toArray, List.set_cons_zero, List.set_cons_succ]
          refine wpAnyH_ready (rs := [3]) (by kernel_rfl) (by simp) ?_
          refine AllReadyH.cons rfl (fun K hK => ?_) AllReadyH.nil
          go_simp
          refine (hcall _ T0.rd).mono ?_
          rintro e w1 ⟨⟨rfl, h1⟩, g1⟩
          have T1 := T0.read h1 g1
          clear h1 g1 T0 hcall
          refine hK.out _ _ trivial (fun _ => ?_)
          clear hK K
          try simp only [Act.put, List.setIfInBounds_toArray, List.set_cons_zero, List.set_cons_succ]
          refine wpAnyH_ready (rs := [4]) (by kernel_rfl) (by simp) ?_
          refine AllReadyH.cons rfl (fun K hK => ?_) AllReadyH.nil
          go_simp
          have T2 := T1.up (Up.alloc w1 (.cells (EC x).toArray 50))
          have nb : Box (w1.alloc (.cells (EC x).toArray 50)) w1.heap.size (EC x).toArray := Box.new _ _ _
          refine hK.out _ _ trivial (fun _ => ?_)
          clear hK K
          clear T1
          generalize w1.alloc _ = w2 at *
          try simp only [Act.put, List.setIfInBounds_toArray, List.set_cons_zero, List.set_cons_succ]
          refine wpAnyH_ready (rs := [5]) (by kernel_rfl) (by simp) ?_
          refine AllReadyH.cons rfl (fun K hK => ?_) AllReadyH.nil
          refine wp_pushE w2 (.tmp 20) (.tmp 23) rfl (k + 1) w1.heap.size vk es x rfl rfl T2.own nb ?_ ?_ ?_
          · have := T2.bx.lt; omega
          · exact HN.out.1
          intro v3 w3 o3 g3
          obtain ⟨a3, n3, c3, rfl⟩ : ∃ a n c, v3 = .slice a n c := by obtain ⟨a, c, e⟩ := o3.shape; exact ⟨_, _, _, e⟩
          obtain ⟨b3, T3⟩ := T2.grow g3 o3
          clear T2 nb o3 g3
          refine hK.out _ _ trivial (fun _ => ?_)
          clear hK K
          try simp only [Act.put, List.setIfInBounds_toArray, List.set_cons_zero, List.set_cons_succ]
          refine take_to (some 25) (i := 6) (v := .pointer (some ⟨k, 2, none⟩)) rfl rfl (by kernel_rfl) (by kernel_rfl) (by kernel_rfl) (fun _ _ _ h => h) (Or.inl ⟨by kernel_rfl, by intro u hSu; go_simp⟩) trivial ?_
          simp only [Act.put, List.setIfInBounds_toArray, List.set_cons_zero, List.set_cons_succ]
          refine wpAnyH_ready (rs := [7]) (by kernel_rfl) (by simp) ?_
          refine AllReadyH.cons rfl (fun K hK => ?_) AllReadyH.nil
          obtain ⟨c0, c1, c2⟩ := b3.c3
          have f2 := b3.frozen 2
          go_simp
          refine hK.out _ _ trivial (fun _ => ?_)
          clear hK K
          refine wpAnyH_done (by kernel_rfl) ?_ _
          clear c0 c1 c2 f2 b3
          generalize World.setCell w3 _ _ = w4 at *
          have HTT : Hid (Ts B w w4 r aS aF b1 k l f (.slice a3 n3 c3) (es ++ [x])) := T3
          clear T3
          go_wp2
          go_roundg (N - (i + 1))
          case measure => have := HN.out.2; omega
          case rel => exact ⟨i + 1, b1, .slice a3 n3 c3, es ++ [x], HN.out.2, rfl, by go_num, HTT, HX.out⟩
        · go_simp
          refine (hcall _ T0.rd).mono ?_
          rintro e w1 ⟨⟨rfl, h1⟩, g1⟩
          have T1 := T0.read h1 g1
          clear h1 g1 T0 hcall
          refine hK.out _ _ trivial (fun _ => ?_)
          clear hK K
          try simp only [Act.put, List.setIfInBounds_toArray, List.set_cons_zero, List.set_cons_succ]
          refine wpAnyH_ready (rs := [1, 4]) (by kernel_rfl) (by simp) ?_
          refine AllReadyH.cons rfl (fun K hK => ?_) (AllReadyH.cons rfl (fun K hK => ?_) AllReadyH.nil)
          · obtain ⟨c0, c1, c2⟩ := T1.bx.c3
            go_simp
            refine hK.out _ _ trivial (fun _ => ?_)
            clear hK K c0 c1 c2
            try simp only [Act.put, List.setIfInBounds_toArray, List.set_cons_zero, List.set_cons_succ]
            refine wpAnyH_ready (rs := [4]) (by kernel_rfl) (by simp) ?_
            refine AllReadyH.cons rfl (fun K hK => ?_) AllReadyH.nil
            go_simp
            have T2 := T1.up (Up.alloc w1 (.cells (EC x).toArray 50))
            have nb : Box (w1.alloc (.cells (EC x).toArray 50)) w1.heap.size (EC x).toArray := Box.new _ _ _
            refine hK.out _ _ trivial (fun _ => ?_)
            clear hK K
            clear T1
            generalize w1.alloc _ = w2 at *
            try simp only [Act.put, List.setIfInBounds_toArray, List.set_cons_zero, List.set_cons_succ]
            refine wpAnyH_ready (rs := [5]) (by kernel_rfl) (by simp) ?_
            refine AllReadyH.cons rfl (fun K hK => ?_) AllReadyH.nil
            refine wp_pushE w2 (.tmp 20) (.tmp 23) rfl (k + 1) w1.heap.size vk es x rfl rfl T2.own nb ?_ ?_ ?_
            · have := T2.bx.lt; omega
            · exact HN.out.1
            intro v3 w3 o3 g3
            obtain ⟨a3, n3, c3, rfl⟩ : ∃ a n c, v3 = .slice a n c := by obtain ⟨a, c, e⟩ := o3.shape; exact ⟨_, _, _, e⟩
            obtain ⟨b3, T3⟩ := T2.grow g3 o3
            clear T2 nb o3 g3
            refine hK.out _ _ trivial (fun _ => ?_)
            clear hK K
            try simp only [Act.put, List.setIfInBounds_toArray, List.set_cons_zero, List.set_cons_succ]
            refine take_to (some 25) (i := 6) (v := .pointer (some ⟨k, 2, none⟩)) rfl rfl (by kernel_rfl) (by kernel_rfl) (by kernel_rfl) (fun _ _ _ h => h) (Or.inl ⟨by kernel_rfl, by intro u hSu; go_simp⟩) trivial ?_
            simp only [Act.put, List.setIfInBounds_toArray, List.set_cons_zero, List.set_cons_succ]
            refine wpAnyH_ready (rs := [7]) (by kernel_rfl) (by simp) ?_
            refine AllReadyH.cons rfl (fun K hK => ?_) AllReadyH.nil
            obtain ⟨c0, c1, c2⟩ := b3.c3
            have f2 := b3.frozen 2
            go_simp
            refine hK.out _ _ trivial (fun _ => ?_)
            clear hK K
            refine wpAnyH_done (by kernel_rfl) ?_ _
            clear c0 c1 c2 f2 b3
            generalize World.setCell w3 _ _ = w4 at *
            have HTT : Hid (Ts B w w4 r aS aF b1 k l f (.slice a3 n3 c3) (es ++ [x])) := T3
            clear T3
            go_wp2
            go_roundg (N - (i + 1))
            case measure => have := HN.out.2; omega
            case rel => exact ⟨i + 1, b1, .slice a3 n3 c3, es ++ [x], HN.out.2, rfl, by go_num, HTT, HX.out⟩
          · go_simp
            have T2 := T1.up (Up.alloc w1 (.cells (EC x).toArray 50))
            have nb : Box (w1.alloc (.cells (EC x).toArray 50)) w1.heap.size (EC x).toArray := Box.new _ _ _
            refine hK.out _ _ trivial (fun _ => ?_)
            clear hK K
            clear T1
            generalize w1.alloc _ = w2 at *
            try simp only [Act.put, List.setIfInBounds_toArray, List.set_cons_zero, List.set_cons_succ]
            refine wpAnyH_ready (rs := [1]) (by kernel_rfl) (by simp) ?_
            refine AllReadyH.cons rfl (fun K hK => ?_) AllReadyH.nil
            obtain ⟨c0, c1, c2⟩ := T2.bx.c3
            go_simp
            refine hK.out _ _ trivial (fun _ => ?_)
            clear hK K c0 c1 c2
            try simp only [Act.put, List.setIfInBounds_toArray, List.set_cons_zero, List.set_cons_succ]
            refine wpAnyH_ready (rs := [5]) (by kernel_rfl) (by simp) ?_
            refine AllReadyH.cons rfl (fun K hK => ?_) AllReadyH.nil
            refine wp_pushE w2 (.tmp 20) (.tmp 23) rfl (k + 1) w1.heap.size vk es x rfl rfl T2.own nb ?_ ?_ ?_
            · have := T2.bx.lt; omega
            · exact HN.out.1
            intro v3 w3 o3 g3
            obtain ⟨a3, n3, c3, rfl⟩ : ∃ a n c, v3 = .slice a n c := by obtain ⟨a, c, e⟩ := o3.shape; exact ⟨_, _, _, e⟩
            obtain ⟨b3, T3⟩ := T2.grow g3 o3
            clear T2 nb o3 g3
            refine hK.out _ _ trivial (fun _ => ?_)
            clear hK K
            try simp only [Act.put, List.setIfInBounds_toArray, List.set_cons_zero, List.set_cons_succ]
            refine take_to (some 25) (i := 6) (v := .pointer (some ⟨k, 2, none⟩)) rfl rfl (by kernel_rfl) (by kernel_rfl) (by kernel_rfl) (fun _ _ _ h => h) (Or.inl ⟨by kernel_rfl, by intro u hSu; go_simp⟩) trivial ?_
            simp only [Act.put, List.setIfInBounds_toArray, List.set_cons_zero, List.set_cons_succ]
            refine wpAnyH_ready (rs := [7]) (by kernel_rfl) (by simp) ?_
            refine AllReadyH.cons rfl (fun K hK => ?_) AllReadyH.nil
            obtain ⟨c0, c1, c2⟩ := b3.c3
            have f2 := b3.frozen 2
            go_simp
            refine hK.out _ _ trivial (fun _ => ?_)
            clear hK K
            refine wpAnyH_done (by kernel_rfl) ?_ _
            clear c0 c1 c2 f2 b3
            generalize World.setCell w3 _ _ = w4 at *
            have HTT : Hid (Ts B w w4 r aS aF b1 k l f (.slice a3 n3 c3) (es ++ [x])) := T3
            clear T3
            go_wp2
            go_roundg (N - (i + 1))
            case measure => have := HN.out.2; omega
            case rel => exact ⟨i + 1, b1, .slice a3 n3 c3, es ++ [x], HN.out.2, rfl, by go_num, HTT, HX.out⟩
    · obtain rfl : i = N := by omega
      have hfin : R = .ok (es, rest) := by rw [HR.out.1, Nat.sub_self, rowsD]; simp [more]
      subst hfin
      have T := HT.out
      have hle : es.length ≤ 4096 := by have := HR.out.2; omega
      obtain ⟨c0, c1, c2⟩ := T.bx.c3
      have cF := T.rd.gf.cell
      have hL := Left_S T.rd
      obtain ⟨p0, p1, p2, ho⟩ := T.out
      obtain ⟨o0, o1, o2⟩ := ho.c3
      have fz := ho.frozen
      clear HT HR hlt hi
      by_cases hr : rest = []
      · subst hr
        have hV := Valid_any vk l f es wr T.own.sl (by omega)
        obtain ⟨q, hq⟩ : ∃ q, okS ⟨l, f, es⟩ = q := ⟨_, rfl⟩
        rw [hq] at hV
        cases q with
        | false =>
          have HP : Hid (∀ u, TsE w.heap.size u aS aF (Pan aF) (fin l f (.ok (es, [])))) := by
            show ∀ u, TsE _ _ _ _ _ _
            intro u
            rw [fin_bad (.inr hq)]
            rfl
          clear o0 o1 o2 fz ho hq
          go_wp2_with fail
          refine hL.mono ?_
          rintro e w5 ⟨rfl, rfl⟩
          go_wp2_with fail
          refine hV.mono ?_
          rintro e w6 ⟨rfl, u6⟩
          have cF2 := (T.up u6).rd.gf.cell
          clear c0 c1 c2 cF
          go_wp2_with fail
          refine (giveUp_any aF _).mono ?_
          rintro e w7 ⟨rfl, rfl⟩
          exact ⟨rfl, HP.out _, T.but.trans (But.of_up r u6)⟩
        | true =>
          clear o0 o1 o2 fz ho cF
          go_wp2_with fail
          refine hL.mono ?_
          rintro e w5 ⟨rfl, rfl⟩
          go_wp2_with fail
          refine hV.mono ?_
          rintro e w6 ⟨rfl, u6⟩
          have T6 := T.up u6
          clear c0 c1 c2
          obtain ⟨c0, c1, c2⟩ := T6.bx.c3
          obtain ⟨p0, p1, p2, ho⟩ := T6.out
          obtain ⟨o0, o1, o2⟩ := ho.c3
          have fz := ho.frozen
          obtain ⟨ak, ck, rfl⟩ := T.own.shape
          have b9 := ho.set3 (x := V l) (y := V f) (z := .slice ak es.length ck)
          go_wp2
          clear c0 c1 c2 o0 o1 o2 fz ho
          obtain ⟨d0, d1, d2⟩ := b9.c3
          refine bodyPost_ret (v := .agg #[V l, V f, .slice ak es.length ck]) (by simp [results, Tryd.results30, go_sem, d0, d1, d2]) rfl ⟨?_, ?_⟩
          · rw [fin_ok hq]
            refine ⟨_, rfl, ?_⟩
            have hlk := T6.lk
            have hg := T6.own.ge
            exact (OwnE.rebase (((T6.own.kept (Touch.setCell (Touch.refl _ [w.heap.size]) (.inl (by simp)) 0 (V l)) (fun j hj => by have := (hg j hj).1; simp only [List.mem_singleton]; omega)).kept (Touch.setCell (Touch.refl _ [w.heap.size]) (.inl (by simp)) 1 (V f)) (fun j hj => by have := (hg j hj).1; simp only [List.mem_singleton]; omega)).kept (Touch.setCell (Touch.refl _ [w.heap.size]) (.inl (by simp)) 2 (.slice ak es.length ck)) (fun j hj => by have := (hg j hj).1; simp only [List.mem_singleton]; omega)) (by omega))
          · exact ((T6.but.setI (Nat.le_refl _) 0 (V l)).setI (Nat.le_refl _) 1 (V f)).setI (Nat.le_refl _) 2 (.slice ak es.length ck)
      · have hp : 0 < rest.length := List.length_pos_iff.2 hr
        have HP : Hid (∀ u, TsE w.heap.size u aS aF (Pan aF) (fin l f (.ok (es, rest)))) := by
          show ∀ u, TsE _ _ _ _ _ _
          intro u
          rw [fin_bad (.inl hr)]
          rfl
        generalize rest.length = M at hL hp
        have hp2 : (0 : Int) < (M : Int) := by omega
        clear o0 o1 o2 fz ho
        go_wp2_with fail
        refine hL.mono ?_
        rintro e w5 ⟨rfl, rfl⟩
        go_wp2_with fail
        refine (giveUp_any aF _).mono ?_
        rintro e w7 ⟨rfl, rfl⟩
        exact ⟨rfl, HP.out _, T.but⟩
end Go.Proofs.YtooclofdljampaaDoor
