/- Merged: DkOp6. -/
import Derived.Test.YtkfjkfpodkbkaaaGreatDoorMg20
import Derived.Maps.AppendAt
set_option linter.unusedVariables false
set_option linter.unusedSimpArgs false
namespace Go.Proofs.YtkfjkfpodkbkaaaGreatDoor
open Go Go.RowKit Go.Maps

theorem Tryz.infoChg : (Tryz.prog.info? 138).map (fun i => (i.zero, i.size, i.bytes)) = some (some (.agg #[.string ⟨#[]⟩, .string ⟨#[]⟩, .pointer none]), 3, 40) := by kernel_rfl

/-- append of one change, within a drawn region. -/
theorem wp_change_any {o : Oper} {a : Act} {K : Act → World → Prop} {Q : Exit → Act → World → Prop} (w : World) (s x : Operand)
    (ho : o.op = .call { callee := .builtin .append, args := #[s, x], argTypes := #[80, 80] }) (base : Nat) (v : Value) (n : Nat) (xs : List Value) (g : Nat) (p q r : Value) (hs : a.eval s = v) (hx : a.eval x = .slice (some ⟨g, 0, none⟩) 1 1)
    (how : w.ownsRow base 138 3 v n xs) (hg : Box w g #[p, q, r]) (h1 : p.oneCell' = true) (h2 : q.oneCell' = true) (h3 : r.oneCell' = true) (hbase : base ≤ w.heap.size) (hl : n ≤ 1000000000000)
    (hK : ∀ v' w', w'.ownsRow base 138 3 v' (n + 1) (xs ++ [p, q, r]) → w.grownBy w' v.ownBlock → (v'.ownBlock = v.ownBlock ∨ v'.ownBlock = some w.heap.size) → K (a.put o.dst v') w') : o.wp Tryz.prog a w K Q := by
  obtain ⟨i0, hi, hz0, hz1, hz2⟩ := info_parts Tryz.infoChg
  have hnews : ∀ j u, [p, q, r][j]? = some u → w.cell? ((⟨g, 0, none⟩ : Addr).add j) = some u := by
    intro j u hj
    rw [Addr.add_lit]
    match j, hj with
    | 0, hj => simp at hj; subst hj; exact hg.cell 0
    | 1, hj => simp at hj; subst hj; exact hg.cell 1
    | 2, hj => simp at hj; subst hj; exact hg.cell 2
    | j + 3, hj => simp at hj
  have hone : ∀ u ∈ [p, q, r], u.oneCell' = true := by
    intro u hu
    simp only [List.mem_cons, List.not_mem_nil, or_false] at hu
    rcases hu with rfl | rfl | rfl
    · exact h1
    · exact h2
    · exact h3
  obtain ⟨v', w', hr, r1, r2, r3, r4⟩ := run_append_own_at (P := Tryz.prog) w base 80 o.type 138 i0 (.agg #[.string ⟨#[]⟩, .string ⟨#[]⟩, .pointer none]) 3 40 Tryz.underlying80 hi hz0 hz1 hz2 rfl (by decide) v n xs how ⟨g, 0, none⟩ 1 1 [p, q, r] rfl hnews hone (by unfold maxLen; omega) (by omega) hbase
  unfold Oper.wp execOp
  simp only [ho, resolve, invoke, builtin, Sem.run_bind, Sem.run_pure, Result.andThen_ok, List.map_toArray, List.map_cons, List.map_nil, hs, hx, hr]
  exact hK v' w' r1 r2 r4

theorem ownsRow_slice {w : World} {base : Nat} {e : TypeId} {size : Nat} {v : Value} {n : Nat} {xs : List Value} (h : w.ownsRow base e size v n xs) : ∃ p l c, v = .slice p l c := by
  rcases h.2 with ⟨rfl, _⟩ | ⟨g, cap, cur, rfl, _⟩
  · exact ⟨_, _, _, rfl⟩
  · exact ⟨_, _, _, rfl⟩

theorem nmap_app (fl : Fls) (c : Chg) (m : Nm → Option Nat) (j : Nat) (hc : c.tt ≠ []) (hf : c.file = some j) : nmap fl (c.app m) = upd (upd (nmap fl m) c.frm none) c.tt (some (blk fl j)) := by
  funext x
  unfold nmap Chg.app
  rw [if_neg hc]
  simp only [upd]
  by_cases h1 : x = c.tt
  · simp [h1, hf]
  · simp only [if_neg h1]
    by_cases h2 : x = c.frm
    · simp [h2]
    · simp [h2]

theorem alter_fin {w W1 W2 W3 w' : World} {base db : Nat} {D : Dsk} {bs bf : Nat} {vch v' : Value} {mp : Option Nat} {fl : Fls} {c : Chg} {j : Nat} (h : DiskV w base db D bs bf vch mp fl) (hc : c.tt ≠ []) (hf : c.file = some j)
    (hm : MapIs W1 bs (D.room + 1) (upd (upd (nmap fl D.seen) c.frm none) c.tt (some (blk fl j)))) (t1 : Touch w W1 [bs]) (u2 : Up W1 W2) (how : W3.ownsRow base 138 3 v' (D.chg.length + 1) (D.chg.flatMap (ccells fl) ++ ccells fl c)) (g3 : W2.grownBy W3 vch.ownBlock)
    (hv' : ∀ k ∈ ob v', k ∈ ob vch ∨ w.heap.size ≤ k) (hw : w' = W3.setCell ⟨db, 2, none⟩ v') (hbase : base ≤ w.heap.size) :
    DiskV w' base db (D.alter c) bs bf v' mp fl ∧ (∀ k ∈ dl db bs bf v' mp fl, k ∈ dl db bs bf vch mp fl ∨ w.heap.size ≤ k) ∧ Touch w w' (dl db bs bf vch mp fl) := by
  subst hw
  have nd := h.nd
  have t2 : Touch w W2 (bs :: ob vch) := (t1.mono (fun k hk => .inl (by simp at hk; simp [hk]))).trans (Touch.of_up u2 []) (fun k hk => by simp at hk)
  have t3 : Touch w W3 (bs :: ob vch) := t2.trans (Touch.of_grown g3 (S := ob vch) (fun k hk => mem_ob.2 hk)) (fun k hk => .inl (by simp [hk]))
  have t4 : Touch W3 (W3.setCell ⟨db, 2, none⟩ v') [db] := (Touch.refl _ _).setCell (.inl (by simp)) _ _
  have t5 : Touch w (W3.setCell ⟨db, 2, none⟩ v') (db :: bs :: ob vch) := (t3.mono (fun k hk => .inl (by simp only [List.mem_cons] at hk ⊢; exact .inr hk))).trans t4 (fun k hk => .inl (by simp at hk; simp [hk]))
  simp only [dl, List.nodup_cons, List.mem_cons, not_or] at nd
  obtain ⟨⟨n1, n2, n3⟩, ⟨n4, n5⟩, n6, n7⟩ := nd
  have hch : ∀ k ∈ ob vch, k ∉ mp.toList ++ fl.flatMap (·.2) := by
    rw [List.nodup_append] at n7
    exact fun k hk hm => n7.2.2 k hk k hm rfl
  have hnew : ∀ k ∈ dl db bs bf v' mp fl, k ∈ dl db bs bf vch mp fl ∨ w.heap.size ≤ k := fun k hk => by
    simp only [dl, List.mem_cons, List.mem_append] at hk ⊢
    rcases hk with r | r | r | r | r
    · exact .inl (.inl r)
    · exact .inl (.inr (.inl r))
    · exact .inl (.inr (.inr (.inl r)))
    · exact (hv' k r).imp (fun q => .inr (.inr (.inr (.inl q)))) id
    · exact .inl (.inr (.inr (.inr (.inr r))))
  have hlt := h.lt
  have hrest : ∀ k ∈ mp.toList ++ fl.flatMap (·.2), k ∉ db :: bs :: ob vch := fun k hk hm => by
    simp only [List.mem_cons] at hm
    rcases hm with rfl | rfl | hm
    · exact n3 (List.mem_append_right _ hk)
    · exact n5 (List.mem_append_right _ hk)
    · exact hch k hm hk
  have hvdb : db ∉ ob v' := fun hm => by
    rcases hv' db hm with q | q
    · exact n3 (List.mem_append_left _ q)
    · have := hlt db (by simp); omega
  refine ⟨⟨?_, ?_, ?_, ?_, ?_, h.len, fun i F hi => ?_, ?_, fun k hk => ?_⟩, hnew, t5.mono (fun k hk => .inl ?_)⟩
  · have e : dcells bs bf v' (D.alter c) mp = (dcells bs bf vch D mp).setIfInBounds 2 v' := by simp [dcells, Dsk.alter]
    rw [e]
    refine Box.set (t3.box h.box (fun hm => ?_)) 2 v'
    simp only [List.mem_cons] at hm
    rcases hm with q | q
    · exact n1 q
    · exact n3 (List.mem_append_left _ q)
  · show MapIs _ bs (D.room + 1) (nmap fl (c.app D.seen))
    rw [nmap_app fl c D.seen j hc hf]
    have q : Touch W1 (W3.setCell ⟨db, 2, none⟩ v') (db :: ob vch) := ((Touch.of_up u2 (ob vch)).trans (Touch.of_grown g3 (S := ob vch) (fun k hk => mem_ob.2 hk)) (fun k hk => .inl hk) |>.mono (fun k hk => .inl (List.mem_cons_of_mem _ hk))).trans t4 (fun k hk => .inl (by simp at hk; simp [hk]))
    refine hm.kept q (fun hm => ?_)
    simp only [List.mem_cons] at hm
    rcases hm with e | e
    · exact n1 e.symm
    · exact n5 (List.mem_append_left _ e)
  · obtain ⟨n, q, r⟩ := h.saf
    refine ⟨n, ?_, r.kept t5 (fun hm => ?_)⟩
    · show n + (D.chg ++ [c]).length ≤ D.room + 1
      rw [List.length_append, List.length_singleton]; omega
    · simp only [List.mem_cons] at hm
      rcases hm with e | e | e
      · exact n2 e.symm
      · exact n4 e.symm
      · exact n6 (List.mem_append_left _ e)
  · have e1 : (D.alter c).chg.length = D.chg.length + 1 := by simp [Dsk.alter]
    have e2 : (D.alter c).chg.flatMap (ccells fl) = D.chg.flatMap (ccells fl) ++ ccells fl c := by simp [Dsk.alter]
    rw [e1, e2]
    exact Touch.row how t4 (fun k hk => by simp; rintro rfl; exact hvdb (mem_ob.2 hk))
  · exact h.prt.kept t5 (fun k hk => hrest k (by simp [hk]))
  · obtain ⟨p, hp, hf2⟩ := h.fil i F hi
    exact ⟨p, hp, hf2.kept t5 (fun k hk => hrest k (by
      have : k ∈ fl.flatMap (·.2) := List.mem_flatMap.2 ⟨p, List.mem_of_getElem? hp, hk⟩
      simp [this]))⟩
  · have nd := h.nd
    have hA : dl db bs bf vch mp fl = [db, bs, bf] ++ ob vch ++ (mp.toList ++ fl.flatMap (·.2)) := by simp [dl]
    have hB : dl db bs bf v' mp fl = [db, bs, bf] ++ ob v' ++ (mp.toList ++ fl.flatMap (·.2)) := by simp [dl]
    rw [hB]
    exact nodup_swap (n := w.heap.size) (by rw [← hA]; exact nd) (ob_nodup _) hv' (fun k hk => hlt k (by rw [hA]; exact hk))
  · rcases hnew k hk with q | q
    · exact h.ge k q
    · omega
  · simp only [dl, List.mem_cons, List.mem_append] at hk ⊢
    rcases hk with r | r | r
    · exact .inl r
    · exact .inr (.inl r)
    · exact .inr (.inr (.inr (.inl r)))

set_option maxRecDepth 20000 in
set_option maxHeartbeats 1600000 in
theorem alter_any (base db : Nat) (D : Dsk) (bs bf : Nat) (vch : Value) (mp : Option Nat) (fl : Fls) (c : Chg) (j : Nat) (w : World) (h : DiskV w base db D bs bf vch mp fl) (hc : c.tt ≠ []) (hf : c.file = some j) (hl1 : c.frm.length ≤ maxLen) (hl2 : c.tt.length ≤ maxLen) (hn : D.room ≤ 100000000000) (hbase : base ≤ w.heap.size) :
    Calls Tryz.prog 86 #[.pointer (some ⟨db, 0, none⟩), .agg #[Sv c.frm, Sv c.tt, Pv1 (some (blk fl j))]] w fun e w' => e = .returned (.tuple #[]) ∧ ∃ v', DiskV w' base db (D.alter c) bs bf v' mp fl ∧ (∀ k ∈ dl db bs bf v' mp fl, k ∈ dl db bs bf vch mp fl ∨ w.heap.size ≤ k) ∧ Touch w w' (dl db bs bf vch mp fl) := by
  have hlen : D.chg.length ≤ 1000000000000 := by obtain ⟨n, q, _⟩ := h.saf; omega
  obtain ⟨W0, hW0⟩ : ∃ W0, w.alloc (.cells #[Sv c.frm, Sv c.tt, Pv1 (some (blk fl j))] 138) = W0 := ⟨_, rfl⟩
  have u0 : Up w W0 := by rw [← hW0]; exact Up.alloc _ _
  have b0 : Box W0 w.heap.size #[Sv c.frm, Sv c.tt, Pv1 (some (blk fl j))] := by rw [← hW0]; exact Box.new _ _ _
  have ud := Up.drew W0
  have hap := apply_put c.frm c.tt (blk fl j) bs D.room (nmap fl D.seen) W0.drew ((h.see.up u0).up ud) (by omega) hl1 hl2 hc
  have hdbl := h.box.lt
  have hbsl := h.see.lt
  have hdbs : db ≠ bs := by have := h.nd; simp only [dl, List.nodup_cons, List.mem_cons, not_or] at this; exact this.1.1
  have d0 := (h.box.up u0).up ud
  have cc0 : W0.drew.cell? ⟨w.heap.size, 0, none⟩ = some (Sv c.frm) := (b0.up ud).cell 0
  have cc1 : W0.drew.cell? ⟨w.heap.size, 1, none⟩ = some (Sv c.tt) := (b0.up ud).cell 1
  have cc2 : W0.drew.cell? ⟨w.heap.size, 2, none⟩ = some (Pv1 (some (blk fl j))) := (b0.up ud).cell 2
  have cd0 : W0.drew.cell? ⟨db, 0, none⟩ = some (.map (some bs)) := d0.cell 0
  have HA : Hid (Calls Tryz.prog 97 #[.agg #[Sv c.frm, Sv c.tt, Pv1 (some (blk fl j))], .map (some bs)] W0.drew fun e w' => e = .returned (.tuple #[]) ∧ MapIs w' bs (D.room + 1) (upd (upd (nmap fl D.seen) c.frm none) c.tt (some (blk fl j))) ∧ Touch W0.drew w' [bs]) := hap
  have HH : Hid (DiskV w base db D bs bf vch mp fl ∧ base ≤ w.heap.size ∧ c.tt ≠ [] ∧ c.file = some j ∧ Up w W0 ∧ Box W0 w.heap.size #[Sv c.frm, Sv c.tt, Pv1 (some (blk fl j))] ∧ Box W0.drew db (dcells bs bf vch D mp) ∧ db ≠ bs ∧ w.heap.size ≠ db ∧ w.heap.size ≠ bs ∧ D.chg.length ≤ 1000000000000) := ⟨h, hbase, hc, hf, u0, b0, d0, hdbs, by omega, by omega, hlen⟩
  clear h hbase hc hf u0 b0 d0 hdbs hdbl hbsl hap hlen hl1 hl2 hn
  go_enter Tryz.func86, Tryz.ntmps86
  go_wp2_with fail
  have hs : Box W0.drew w.heap.size #[Sv c.frm, Sv c.tt, Pv1 (some (blk fl j))] ∧ Box W0.drew db (dcells bs bf vch D mp) := ⟨HH.out.2.2.2.2.2.1.up ud, HH.out.2.2.2.2.2.2.1⟩
  have sk : ∀ {u u' : World}, (Box u w.heap.size #[Sv c.frm, Sv c.tt, Pv1 (some (blk fl j))] ∧ Box u db (dcells bs bf vch D mp)) → Touch u u' [bs] → (Box u' w.heap.size #[Sv c.frm, Sv c.tt, Pv1 (some (blk fl j))] ∧ Box u' db (dcells bs bf vch D mp)) :=
    fun q t => ⟨t.box q.1 (by simpa using HH.out.2.2.2.2.2.2.2.2.2.1), t.box q.2 (by simpa using HH.out.2.2.2.2.2.2.2.1)⟩
  refine wp_region_held_drew (S := fun u => Box u w.heap.size #[Sv c.frm, Sv c.tt, Pv1 (some (blk fl j))] ∧ Box u db (dcells bs bf vch D mp)) (by kernel_rfl) hs (fun hs0 => ?_)
  refine take_to (some 4) (i := 0) (v := .agg #[Sv c.frm, Sv c.tt, Pv1 (some (blk fl j))]) rfl rfl (by kernel_rfl) (by kernel_rfl) (by kernel_rfl) (fun _ _ _ h => h) (Or.inl ⟨by kernel_rfl, by intro u hSu; have q0 := hSu.1.cell 0; have q1 := hSu.1.cell 1; have q2 := hSu.1.cell 2; go_simp⟩) hs ?_
  simp only [Act.put, List.setIfInBounds_toArray, List.set_cons_zero, List.set_cons_succ]
  refine take_to (some 5) (i := 1) (v := .pointer (some ⟨db, 0, none⟩)) rfl rfl (by kernel_rfl) (by kernel_rfl) (by kernel_rfl) (fun _ _ _ h => h) (Or.inl ⟨by kernel_rfl, by intro u hSu; go_simp⟩) hs ?_
  simp only [Act.put, List.setIfInBounds_toArray, List.set_cons_zero, List.set_cons_succ]
  refine take_to (some 6) (i := 2) (v := .pointer (some ⟨db, 0, none⟩)) rfl rfl (by kernel_rfl) (by kernel_rfl) (by kernel_rfl) (fun _ _ _ h => h) (Or.inl ⟨by kernel_rfl, by intro u hSu; go_simp⟩) hs ?_
  simp only [Act.put, List.setIfInBounds_toArray, List.set_cons_zero, List.set_cons_succ]
  refine take_to (some 7) (i := 3) (v := .pointer (some ⟨db, 0, none⟩)) rfl rfl (by kernel_rfl) (by kernel_rfl) (by kernel_rfl) (fun _ _ _ h => h) (Or.inl ⟨by kernel_rfl, by intro u hSu; go_simp⟩) hs ?_
  simp only [Act.put, List.setIfInBounds_toArray, List.set_cons_zero, List.set_cons_succ]
  refine take_to (some 8) (i := 4) (v := .map (some bs)) rfl rfl (by kernel_rfl) (by kernel_rfl) (by kernel_rfl) (fun _ _ _ h => h) (Or.inl ⟨by kernel_rfl, by intro u hSu; have q0 : u.cell? ⟨db, 0, none⟩ = some (.map (some bs)) := hSu.2.cell 0; go_simp⟩) hs ?_
  simp only [Act.put, List.setIfInBounds_toArray, List.set_cons_zero, List.set_cons_succ]
  refine wpAnyH_ready (rs := [5]) (by kernel_rfl) (by simp) ?_
  refine AllReadyH.cons rfl (fun K hK => ?_) AllReadyH.nil
  go_simp
  refine HA.out.mono ?_
  rintro e w1 ⟨rfl, hm1, t1⟩
  have s1 := sk hs t1
  refine hK.out _ _ s1 (fun _ => ?_)
  clear hK K
  refine wpAnyH_done (by kernel_rfl) ?_ _
  go_wp2_with fail
  refine wp_region_any (by kernel_rfl) ?_
  obtain ⟨W2, hW2⟩ : ∃ W2, ({ heap := w1.heap, tape := w1.tape, drawn := w1.drawn + 1, os := w1.os, output := w1.output } : World) = W2 := ⟨_, rfl⟩
  have u2 : Up w1 W2 := by rw [← hW2]; exact Up.drew w1
  have b2 : Box W2 w.heap.size #[Sv c.frm, Sv c.tt, Pv1 (some (blk fl j))] := s1.1.up u2
  have e2 : Box W2 db (dcells bs bf vch D mp) := s1.2.up u2
  rw [hW2]
  have T1 : Touch w w1 [bs] := ((Touch.of_up (HH.out.2.2.2.2.1.trans ud) [bs])).trans t1 (fun k hk => .inl hk)
  have T2 : Touch w W2 [bs] := T1.trans (Touch.of_up u2 []) (fun k hk => by simp at hk)
  obtain ⟨W3, hW3⟩ : ∃ W3, W2.alloc (.cells #[Sv c.frm, Sv c.tt, Pv1 (some (blk fl j))] 138) = W3 := ⟨_, rfl⟩
  have u3 : Up W2 W3 := by rw [← hW3]; exact Up.alloc _ _
  have HR : Hid (W3.ownsRow base 138 3 vch D.chg.length (D.chg.flatMap (ccells fl)) ∧ Box W3 W2.heap.size #[Sv c.frm, Sv c.tt, Pv1 (some (blk fl j))] ∧ base ≤ W3.heap.size ∧ D.chg.length ≤ 1000000000000) := by
    obtain ⟨h, hbase, hc, hf, u0, b0, d0, hdbs, r1, r2, hlen⟩ := HH.out
    refine ⟨Touch.row h.chg (T2.trans (Touch.of_up u3 []) (fun k hk => by simp at hk)) (fun k hk => ?_), by rw [← hW3]; exact Box.new _ _ _, Nat.le_trans hbase (Nat.le_trans T2.size u3.size), hlen⟩
    have nd := h.nd
    simp only [dl, List.nodup_cons, List.mem_cons, not_or] at nd
    simp only [List.mem_singleton]
    rintro rfl
    exact nd.2.1.2 (List.mem_append_left _ (mem_ob.2 hk))
  have HS : Hid (∀ (u : World), W3.grownBy u vch.ownBlock → u.frozen? ⟨db, 2, none⟩ = false ∧ u.cell? ⟨db, 2, none⟩ = some vch) := by
    intro u hg
    obtain ⟨h, -⟩ := HH.out
    have nd := h.nd
    simp only [dl, List.nodup_cons, List.mem_cons, not_or] at nd
    have q : Box u db (dcells bs bf vch D mp) := (Touch.of_grown hg (S := ob vch) (fun k hk => mem_ob.2 hk)).box (e2.up u3) (fun hm => nd.1.2.2 (List.mem_append_left _ hm))
    exact ⟨q.frozen 2, q.cell 2⟩
  have HE : Hid (∀ (v3 : Value) (w3 : World), w3.ownsRow base 138 3 v3 (D.chg.length + 1) (D.chg.flatMap (ccells fl) ++ [Sv c.frm, Sv c.tt, Pv1 (some (blk fl j))]) → W3.grownBy w3 vch.ownBlock → (v3.ownBlock = vch.ownBlock ∨ v3.ownBlock = some W3.heap.size) →
      ∃ v', DiskV (w3.setCell ⟨db, 2, none⟩ v3) base db (D.alter c) bs bf v' mp fl ∧ (∀ k ∈ dl db bs bf v' mp fl, k ∈ dl db bs bf vch mp fl ∨ w.heap.size ≤ k) ∧ Touch w (w3.setCell ⟨db, 2, none⟩ v3) (dl db bs bf vch mp fl)) := by
    intro v3 w3 ho hg hb
    obtain ⟨h, hbase, hc, hf, -⟩ := HH.out
    refine ⟨v3, alter_fin (W1 := w1) (W2 := W3) (W3 := w3) h hc hf hm1 T1 (u2.trans u3) (by rw [show ccells fl c = [Sv c.frm, Sv c.tt, Pv1 (some (blk fl j))] by simp [ccells, hf]]; exact ho) hg (fun k hk => ?_) rfl hbase⟩
    rcases hb with q | q
    · exact .inl (mem_ob.2 (q ▸ mem_ob.1 hk))
    · refine .inr ?_
      have := mem_ob.1 hk
      rw [q] at this
      have e : W3.heap.size = k := Option.some.inj this
      have := T2.size
      have := u3.size
      omega
  have k2 : W2.cell? ⟨db, 2, none⟩ = some vch := e2.cell 2
  have m0 : W2.cell? ⟨w.heap.size, 0, none⟩ = some (Sv c.frm) := b2.cell 0
  have m1 : W2.cell? ⟨w.heap.size, 1, none⟩ = some (Sv c.tt) := b2.cell 1
  have m2 : W2.cell? ⟨w.heap.size, 2, none⟩ = some (Pv1 (some (blk fl j))) := b2.cell 2
  have n2 : W3.cell? ⟨db, 2, none⟩ = some vch := (e2.up u3).cell 2
  clear s1 sk hs t1 T1 T2 u2 b2 e2 hm1 cc0 cc1 cc2 cd0 HA HH u3 hW2 ud
  refine take_any (some 10) (i := 0) (v := .pointer (some ⟨db, 0, none⟩)) rfl rfl (by kernel_rfl) (by kernel_rfl) (by kernel_rfl) (fun _ _ _ h => h) (Or.inl ⟨by kernel_rfl, by intro w; go_simp⟩) ?_
  simp only [Act.put, List.setIfInBounds_toArray, List.set_cons_zero, List.set_cons_succ]
  refine take_any (some 11) (i := 1) (v := .pointer (some ⟨db, 0, none⟩)) rfl rfl (by kernel_rfl) (by kernel_rfl) (by kernel_rfl) (fun _ _ _ h => h) (Or.inl ⟨by kernel_rfl, by intro w; go_simp⟩) ?_
  simp only [Act.put, List.setIfInBounds_toArray, List.set_cons_zero, List.set_cons_succ]
  refine take_any (some 12) (i := 2) (v := .pointer (some ⟨db, 0, none⟩)) rfl rfl (by kernel_rfl) (by kernel_rfl) (by kernel_rfl) (fun _ _ _ h => h) (Or.inl ⟨by kernel_rfl, by intro w; go_simp⟩) ?_
  simp only [Act.put, List.setIfInBounds_toArray, List.set_cons_zero, List.set_cons_succ]
  refine take_any (some 13) (i := 3) (v := .pointer (some ⟨db, 2, none⟩)) rfl rfl (by kernel_rfl) (by kernel_rfl) (by kernel_rfl) (fun _ _ _ h => h) (Or.inl ⟨by kernel_rfl, by intro w; go_simp⟩) ?_
  simp only [Act.put, List.setIfInBounds_toArray, List.set_cons_zero, List.set_cons_succ]
  refine wpAny_ready (rs := [4, 5]) (by kernel_rfl) (by simp) ?_
  refine AllReady.cons rfl (fun K hK => ?_) (AllReady.cons rfl (fun K hK => ?_) AllReady.nil)
  · go_simp
    refine hK _ _ ?_
    clear hK K
    refine wpAny_ready (rs := [5]) (by kernel_rfl) (by simp) ?_
    refine AllReady.cons rfl (fun K hK => ?_) AllReady.nil
    go_simp
    refine hK _ _ ?_
    clear hK K
    refine wpAny_ready (rs := [6]) (by kernel_rfl) (by simp) ?_
    refine AllReady.cons rfl (fun K hK => ?_) AllReady.nil
    go_simp
    refine hK _ _ ?_
    clear hK K
    refine wpAny_ready (rs := [7]) (by kernel_rfl) (by simp) ?_
    refine AllReady.cons rfl (fun K hK => ?_) AllReady.nil
    refine wp_change_any _ (.tmp 14) (.tmp 16) rfl base vch D.chg.length (D.chg.flatMap (ccells fl)) W2.heap.size (Sv c.frm) (Sv c.tt) (Pv1 (some (blk fl j))) rfl rfl HR.out.1 HR.out.2.1 rfl rfl rfl HR.out.2.2.1 HR.out.2.2.2 ?_
    intro v3 w3 ho3 hg3 hb3
    refine hK _ _ ?_
    clear hK K
    simp only [Act.put, List.setIfInBounds_toArray, List.set_cons_zero, List.set_cons_succ]
    obtain ⟨f3, g3⟩ := HS.out w3 hg3
    obtain ⟨p3, l3, c3, rfl⟩ := ownsRow_slice ho3
    refine take_any (some 18) (i := 8) (v := .pointer (some ⟨db, 0, none⟩)) rfl rfl (by kernel_rfl) (by kernel_rfl) (by kernel_rfl) (fun _ _ _ h => h) (Or.inl ⟨by kernel_rfl, by intro w; go_simp⟩) ?_
    simp only [Act.put, List.setIfInBounds_toArray, List.set_cons_zero, List.set_cons_succ]
    refine take_any (some 19) (i := 9) (v := .pointer (some ⟨db, 2, none⟩)) rfl rfl (by kernel_rfl) (by kernel_rfl) (by kernel_rfl) (fun _ _ _ h => h) (Or.inl ⟨by kernel_rfl, by intro w; go_simp⟩) ?_
    simp only [Act.put, List.setIfInBounds_toArray, List.set_cons_zero, List.set_cons_succ]
    refine wpAny_ready (rs := [10]) (by kernel_rfl) (by simp) ?_
    refine AllReady.cons rfl (fun K hK => ?_) AllReady.nil
    go_simp
    refine hK _ _ ?_
    clear hK K
    refine wpAny_done (by kernel_rfl) ?_ _
    go_wp2
    go_end0
    exact ⟨rfl, HE.out _ w3 ho3 hg3 hb3⟩
  · go_simp
    refine hK _ _ ?_
    clear hK K
    refine wpAny_ready (rs := [4, 6]) (by kernel_rfl) (by simp) ?_
    refine AllReady.cons rfl (fun K hK => ?_) (AllReady.cons rfl (fun K hK => ?_) AllReady.nil)
    · go_simp
      refine hK _ _ ?_
      clear hK K
      refine wpAny_ready (rs := [6]) (by kernel_rfl) (by simp) ?_
      refine AllReady.cons rfl (fun K hK => ?_) AllReady.nil
      go_simp
      refine hK _ _ ?_
      clear hK K
      refine wpAny_ready (rs := [7]) (by kernel_rfl) (by simp) ?_
      refine AllReady.cons rfl (fun K hK => ?_) AllReady.nil
      refine wp_change_any _ (.tmp 14) (.tmp 16) rfl base vch D.chg.length (D.chg.flatMap (ccells fl)) W2.heap.size (Sv c.frm) (Sv c.tt) (Pv1 (some (blk fl j))) rfl rfl HR.out.1 HR.out.2.1 rfl rfl rfl HR.out.2.2.1 HR.out.2.2.2 ?_
      intro v3 w3 ho3 hg3 hb3
      refine hK _ _ ?_
      clear hK K
      simp only [Act.put, List.setIfInBounds_toArray, List.set_cons_zero, List.set_cons_succ]
      obtain ⟨f3, g3⟩ := HS.out w3 hg3
      obtain ⟨p3, l3, c3, rfl⟩ := ownsRow_slice ho3
      refine take_any (some 18) (i := 8) (v := .pointer (some ⟨db, 0, none⟩)) rfl rfl (by kernel_rfl) (by kernel_rfl) (by kernel_rfl) (fun _ _ _ h => h) (Or.inl ⟨by kernel_rfl, by intro w; go_simp⟩) ?_
      simp only [Act.put, List.setIfInBounds_toArray, List.set_cons_zero, List.set_cons_succ]
      refine take_any (some 19) (i := 9) (v := .pointer (some ⟨db, 2, none⟩)) rfl rfl (by kernel_rfl) (by kernel_rfl) (by kernel_rfl) (fun _ _ _ h => h) (Or.inl ⟨by kernel_rfl, by intro w; go_simp⟩) ?_
      simp only [Act.put, List.setIfInBounds_toArray, List.set_cons_zero, List.set_cons_succ]
      refine wpAny_ready (rs := [10]) (by kernel_rfl) (by simp) ?_
      refine AllReady.cons rfl (fun K hK => ?_) AllReady.nil
      go_simp
      refine hK _ _ ?_
      clear hK K
      refine wpAny_done (by kernel_rfl) ?_ _
      go_wp2
      go_end0
      exact ⟨rfl, HE.out _ w3 ho3 hg3 hb3⟩
    · go_simp
      refine hK _ _ ?_
      clear hK K
      refine wpAny_ready (rs := [4]) (by kernel_rfl) (by simp) ?_
      refine AllReady.cons rfl (fun K hK => ?_) AllReady.nil
      go_simp
      refine hK _ _ ?_
      clear hK K
      refine wpAny_ready (rs := [7]) (by kernel_rfl) (by simp) ?_
      refine AllReady.cons rfl (fun K hK => ?_) AllReady.nil
      refine wp_change_any _ (.tmp 14) (.tmp 16) rfl base vch D.chg.length (D.chg.flatMap (ccells fl)) W2.heap.size (Sv c.frm) (Sv c.tt) (Pv1 (some (blk fl j))) rfl rfl HR.out.1 HR.out.2.1 rfl rfl rfl HR.out.2.2.1 HR.out.2.2.2 ?_
      intro v3 w3 ho3 hg3 hb3
      refine hK _ _ ?_
      clear hK K
      simp only [Act.put, List.setIfInBounds_toArray, List.set_cons_zero, List.set_cons_succ]
      obtain ⟨f3, g3⟩ := HS.out w3 hg3
      obtain ⟨p3, l3, c3, rfl⟩ := ownsRow_slice ho3
      refine take_any (some 18) (i := 8) (v := .pointer (some ⟨db, 0, none⟩)) rfl rfl (by kernel_rfl) (by kernel_rfl) (by kernel_rfl) (fun _ _ _ h => h) (Or.inl ⟨by kernel_rfl, by intro w; go_simp⟩) ?_
      simp only [Act.put, List.setIfInBounds_toArray, List.set_cons_zero, List.set_cons_succ]
      refine take_any (some 19) (i := 9) (v := .pointer (some ⟨db, 2, none⟩)) rfl rfl (by kernel_rfl) (by kernel_rfl) (by kernel_rfl) (fun _ _ _ h => h) (Or.inl ⟨by kernel_rfl, by intro w; go_simp⟩) ?_
      simp only [Act.put, List.setIfInBounds_toArray, List.set_cons_zero, List.set_cons_succ]
      refine wpAny_ready (rs := [10]) (by kernel_rfl) (by simp) ?_
      refine AllReady.cons rfl (fun K hK => ?_) AllReady.nil
      go_simp
      refine hK _ _ ?_
      clear hK K
      refine wpAny_done (by kernel_rfl) ?_ _
      go_wp2
      go_end0
      exact ⟨rfl, HE.out _ w3 ho3 hg3 hb3⟩

end Go.Proofs.YtkfjkfpodkbkaaaGreatDoor
