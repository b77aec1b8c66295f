/- Merged: DkFile, DkFile2. -/
import Derived.Test.YtkfjkfpodkbkaaaGreatDoorMg07
set_option linter.unusedVariables false
set_option linter.unusedSimpArgs false
namespace Go.Proofs.YtkfjkfpodkbkaaaGreatDoor
open Go Go.RowKit

theorem rise_length : ∀ (l : List Nat) (n m : Nat), l.Pairwise (· < ·) → (∀ i ∈ l, m ≤ i ∧ i < n) → l.length ≤ n - m
  | [], _, _, _, _ => Nat.zero_le _
  | a :: l, n, m, h, hb => by
    have hp := List.pairwise_cons.1 h
    have ha := hb a (List.mem_cons_self ..)
    have := rise_length l n (a + 1) hp.2 (fun i hi => ⟨hp.1 i hi, (hb i (List.mem_cons_of_mem _ hi)).2⟩)
    simp only [List.length_cons]
    omega
theorem Con.Ok.few {c : Con} (h : c.Ok) : c.bad.length ≤ sec c.data.length := by
  have := rise_length c.bad (sec c.data.length) 0 h.rise (fun i hi => ⟨Nat.zero_le _, h.there i hi⟩)
  omega

abbrev fcells (age : Int) (vs vsb vf vfb : Value) (waits : Nat) : Array Value := #[.int .i64 age, vs, vsb, vf, vfb, .int .i64 (waits : Int)]
/-- A file's struct, and its four rows, all apart. -/
structure FileV (w : World) (base fb : Nat) (age : Int) (vs vsb vf vfb : Value) (F : Fil) : Prop where
  box : Box w fb (fcells age vs vsb vf vfb F.waits)
  sd : OwnB w base vs F.seen.data
  sb : OwnN w base vsb F.seen.bad
  fd : OwnB w base vf F.safe.data
  fbd : OwnN w base vfb F.safe.bad
  nd : (fb :: (ob vs ++ (ob vsb ++ (ob vf ++ ob vfb)))).Nodup
def FileAt (w : World) (base fb : Nat) (age : Int) (F : Fil) (L : List Nat) : Prop :=
  ∃ vs vsb vf vfb, FileV w base fb age vs vsb vf vfb F ∧ L = fb :: (ob vs ++ (ob vsb ++ (ob vf ++ ob vfb)))

theorem FileV.see {w : World} {base fb : Nat} {age : Int} {vs vsb vf vfb : Value} {F : Fil} (h : FileV w base fb age vs vsb vf vfb F) : InBox w fb 1 (fcells age vs vsb vf vfb F.waits) base vs vsb F.seen :=
  ⟨h.box, rfl, rfl, h.sd, h.sb, by
    have := h.nd
    rw [List.nodup_cons] at this
    rw [List.cons_append, List.nodup_cons]
    refine ⟨fun hm => this.1 (by simp only [List.mem_append] at hm ⊢; rcases hm with h | h <;> simp [h]), ?_⟩
    have h2 := this.2
    rw [← List.append_assoc] at h2
    exact (List.nodup_append.1 h2).1⟩
theorem FileV.saf {w : World} {base fb : Nat} {age : Int} {vs vsb vf vfb : Value} {F : Fil} (h : FileV w base fb age vs vsb vf vfb F) : InBox w fb 3 (fcells age vs vsb vf vfb F.waits) base vf vfb F.safe :=
  ⟨h.box, rfl, rfl, h.fd, h.fbd, by
    have := h.nd
    rw [List.nodup_cons] at this
    rw [List.cons_append, List.nodup_cons]
    refine ⟨fun hm => this.1 (List.mem_append_right _ (List.mem_append_right _ hm)), ?_⟩
    exact (List.nodup_append.1 (List.nodup_append.1 this.2).2.1).2.1⟩
theorem FileV.lt {w : World} {base fb : Nat} {age : Int} {vs vsb vf vfb : Value} {F : Fil} (h : FileV w base fb age vs vsb vf vfb F) : ∀ k ∈ fb :: (ob vs ++ (ob vsb ++ (ob vf ++ ob vfb))), k < w.heap.size := fun k hk => by
  simp only [List.mem_cons, List.mem_append] at hk
  rcases hk with rfl | hk | hk | hk | hk
  · exact h.box.lt
  · exact (World.ownsRow.lt h.sd k (mem_ob.1 hk)).2
  · exact (World.ownsRow.lt h.sb k (mem_ob.1 hk)).2
  · exact (World.ownsRow.lt h.fd k (mem_ob.1 hk)).2
  · exact (World.ownsRow.lt h.fbd k (mem_ob.1 hk)).2
/-- A file that nothing touches is there. -/
theorem FileV.kept {w w' : World} {base fb : Nat} {age : Int} {vs vsb vf vfb : Value} {F : Fil} {S : List Nat} (h : FileV w base fb age vs vsb vf vfb F) (t : Touch w w' S) (hS : ∀ k ∈ fb :: (ob vs ++ (ob vsb ++ (ob vf ++ ob vfb))), k ∉ S) : FileV w' base fb age vs vsb vf vfb F :=
  ⟨t.box h.box (hS fb (by simp)), Touch.row h.sd t (fun k hk => hS k (by simp [mem_ob.2 hk])), Touch.row h.sb t (fun k hk => hS k (by simp [mem_ob.2 hk])), Touch.row h.fd t (fun k hk => hS k (by simp [mem_ob.2 hk])), Touch.row h.fbd t (fun k hk => hS k (by simp [mem_ob.2 hk])), h.nd⟩
theorem FileAt.kept {w w' : World} {base fb : Nat} {age : Int} {F : Fil} {L S : List Nat} (h : FileAt w base fb age F L) (t : Touch w w' S) (hS : ∀ k ∈ L, k ∉ S) : FileAt w' base fb age F L := by
  obtain ⟨vs, vsb, vf, vfb, h, rfl⟩ := h
  exact ⟨vs, vsb, vf, vfb, h.kept t hS, rfl⟩

/-- The seen content is another one, and the number of the first sector that waits. -/
theorem FileV.seen_put {w0 w1 w' : World} {base fb : Nat} {age : Int} {vs vsb vf vfb vs' vsb' : Value} {F : Fil} {c' : Con} {k : Nat} (h : FileV w0 base fb age vs vsb vf vfb F) (hI : InBox w1 fb 1 (fcells age vs' vsb' vf vfb F.waits) base vs' vsb' c')
    (hf1 : ∀ k ∈ ob vs', k ∈ ob vs ∨ w0.heap.size ≤ k) (hf2 : ∀ k ∈ ob vsb', k ∈ ob vsb ∨ w0.heap.size ≤ k) (t : Touch w0 w1 (fb :: ob vs ++ ob vsb)) (hw : w' = w1.setCell ⟨fb, 5, none⟩ (.int .i64 (k : Int))) :
    FileV w' base fb age vs' vsb' vf vfb ⟨c', F.safe, k⟩ ∧ Touch w0 w' (fb :: (ob vs ++ (ob vsb ++ (ob vf ++ ob vfb)))) ∧ (∀ k ∈ fb :: (ob vs' ++ (ob vsb' ++ (ob vf ++ ob vfb))), k ∈ fb :: (ob vs ++ (ob vsb ++ (ob vf ++ ob vfb))) ∨ w0.heap.size ≤ k) := by
  subst hw
  have nd := h.nd
  rw [List.nodup_cons, List.nodup_append, List.nodup_append] at nd
  obtain ⟨n1, n2, ⟨n3, n4, n5⟩, n6⟩ := nd
  have tc : Touch w1 (w1.setCell ⟨fb, 5, none⟩ (.int .i64 (k : Int))) [fb] := (Touch.refl _ _).setCell (.inl (by simp)) _ _
  have nI := hI.nd
  rw [List.cons_append, List.nodup_cons, List.nodup_append] at nI
  have hvf : ∀ k, vf.ownBlock = some k → k ∉ fb :: ob vs ++ ob vsb := fun k hk hm => by
    have hk' := mem_ob.2 hk
    simp only [List.cons_append, List.mem_cons, List.mem_append] at hm
    rcases hm with rfl | hm | hm
    · exact n1 (by simp [hk'])
    · exact n6 k hm k (by simp [hk']) rfl
    · exact n5 k hm k (by simp [hk']) rfl
  have hvfb : ∀ k, vfb.ownBlock = some k → k ∉ fb :: ob vs ++ ob vsb := fun k hk hm => by
    have hk' := mem_ob.2 hk
    simp only [List.cons_append, List.mem_cons, List.mem_append] at hm
    rcases hm with rfl | hm | hm
    · exact n1 (by simp [hk'])
    · exact n6 k hm k (by simp [hk']) rfl
    · exact n5 k hm k (by simp [hk']) rfl
  refine ⟨⟨?_, ?_, ?_, ?_, ?_, ?_⟩, ?_, fun k hk => ?_⟩
  · exact hI.box.set 5 (.int .i64 (k : Int))
  · exact Touch.row hI.dat tc (fun j hj => by simp; rintro rfl; exact nI.1 (List.mem_append_left _ (mem_ob.2 hj)))
  · exact Touch.row hI.bad tc (fun j hj => by simp; rintro rfl; exact nI.1 (List.mem_append_right _ (mem_ob.2 hj)))
  · exact Touch.row (Touch.row h.fd t hvf) tc (fun j hj => by simp; rintro rfl; exact n1 (by simp [mem_ob.2 hj]))
  · exact Touch.row (Touch.row h.fbd t hvfb) tc (fun j hj => by simp; rintro rfl; exact n1 (by simp [mem_ob.2 hj]))
  · have hlt : ∀ k ∈ ob vf ++ ob vfb, k < w0.heap.size := fun k hk => h.lt k (by simp only [List.mem_append] at hk; simp only [List.mem_cons, List.mem_append]; rcases hk with h | h <;> simp [h])
    rw [List.nodup_cons, List.nodup_append, List.nodup_append]
    refine ⟨fun hm => ?_, nI.2.1, ⟨nI.2.2.1, n4, fun x hx y hy e => ?_⟩, fun x hx y hy e => ?_⟩
    · simp only [List.mem_append] at hm
      rcases hm with hm | hm | hm | hm
      · exact nI.1 (List.mem_append_left _ hm)
      · exact nI.1 (List.mem_append_right _ hm)
      · exact n1 (by simp [hm])
      · exact n1 (by simp [hm])
    · subst e
      rcases hf2 x hx with h2 | h2
      · exact n5 x h2 x hy rfl
      · have := hlt x hy; omega
    · subst e
      rcases List.mem_append.1 hy with h3 | h3
      · exact nI.2.2.2 x hx x h3 rfl
      · rcases hf1 x hx with h2 | h2
        · exact n6 x h2 x (by simp only [List.mem_append] at h3 ⊢; exact .inr h3) rfl
        · have := hlt x h3; omega
  · exact (t.mono (fun k hk => .inl (by simp only [List.cons_append, List.mem_cons, List.mem_append] at hk; simp only [List.mem_cons, List.mem_append]; rcases hk with h | h | h <;> simp [h]))).trans tc (fun k hk => .inl (by simp at hk; simp [hk]))
  · simp only [List.mem_cons, List.mem_append] at hk ⊢
    rcases hk with h2 | h2 | h2 | h2 | h2
    · exact .inl (.inl h2)
    · exact (hf1 k h2).imp (fun h3 => .inr (.inl h3)) id
    · exact (hf2 k h2).imp (fun h3 => .inr (.inr (.inl h3))) id
    · exact .inl (.inr (.inr (.inr (.inl h2))))
    · exact .inl (.inr (.inr (.inr (.inr h2))))

theorem add_none (fb : Nat) (ao : Option Addr) (cap : Nat) (w : World) : Calls Tryz.prog 68 #[.pointer (some ⟨fb, 0, none⟩), .slice ao 0 cap] w fun e w' => e = .returned (.tuple #[]) ∧ w' = w := by
  go_enter Tryz.func68, Tryz.ntmps68
  go_wp2
  refine bodyPost_ret (results_none rfl _ _ _) rfl ?_
  exact ⟨rfl, rfl⟩

set_option maxRecDepth 20000 in
set_option maxHeartbeats 400000 in
theorem add_any (base fb : Nat) (age : Int) (F : Fil) (L : List Nat) (vx : Value) (d : List UInt8) (w : World) (hF : FileAt w base fb age F L) (hok : F.Ok) (hbase : base ≤ w.heap.size)
    (hs : Sl 0 w vx d) (hsn : d ≠ [] → ∀ k, vx.ownBlock = some k → k ∉ L) (hl : F.seen.data.length + d.length ≤ CB) :
    Calls Tryz.prog 68 #[.pointer (some ⟨fb, 0, none⟩), vx] w fun e w' => ∃ L', e = .returned (.tuple #[]) ∧ FileAt w' base fb age (F.add d) L' ∧ (∀ k ∈ L', k ∈ L ∨ w.heap.size ≤ k) ∧ Touch w w' L := by
  by_cases hd : d = []
  · subst hd
    obtain ⟨ao, cap, rfl, _⟩ := hs
    refine (add_none fb ao cap w).mono ?_
    rintro e w' ⟨rfl, rfl⟩
    exact ⟨L, rfl, by rw [show F.add [] = F from if_pos rfl]; exact hF, fun k hk => .inl hk, Touch.refl _ _⟩
  · obtain ⟨vs, vsb, vf, vfb, hV, rfl⟩ := hF
    have hI := hV.see
    have hfew := hok.see.few
    have hn : d.length ≠ 0 := fun e => hd (List.eq_nil_of_length_eq_zero e)
    obtain ⟨ps, capS, rfl⟩ := hV.sd.slice
    have hp := put_any base fb 1 F.seen.data.length _ _ _ vx F.seen d w hI hok.see.rise hbase hs (fun hne k hk => ⟨fun hm => hsn hne k hk (by simp [hm]), fun e => hsn hne k hk (by simp [e])⟩) hl (by unfold CB at hl ⊢; omega) (by unfold CB at hl; unfold sec at hfew; omega)
    have c1 : w.cell? ⟨fb, 1, none⟩ = some (.slice ps F.seen.data.length capS) := hV.box.cell 1
    obtain ⟨ao, cap, rfl, _⟩ := hs
    have e1 : (((d.length : Nat) : Int) == 0) = false := by simp; omega
    obtain ⟨E, hE⟩ : ∃ E, F.seen.data.length = E := ⟨_, rfl⟩
    have hadd : F.add d = ⟨F.seen.put E d, F.safe, min F.waits (E / 512)⟩ := by rw [← hE]; exact if_neg hd
    have e2 : (E : Int) ≤ 4611686018427387904 := by unfold CB at hl; omega
    have e3 : (0 : Int) ≤ (E : Int) := by omega
    obtain ⟨Q, hQ⟩ : ∃ Q : Nat, E / 512 = Q := ⟨_, rfl⟩
    have e4 : (E : Int) / 512 = (Q : Int) := by omega
    have e5 : (Q : Int) ≤ 4611686018427387904 := by omega
    have e6 : (0 : Int) ≤ (Q : Int) := by omega
    obtain ⟨M, hM⟩ : ∃ M : Nat, min F.waits Q = M := ⟨_, rfl⟩
    have e7 : min (F.waits : Int) (Q : Int) = (M : Int) := by omega
    rw [hQ, hM] at hadd
    rw [hE] at hp c1
    have HP : Hid (Calls Tryz.prog 101 #[.pointer (some ⟨fb, 1, none⟩), .int .i64 (E : Int), .slice ao d.length cap] w fun e w' => ∃ vd' vb', e = .returned (.tuple #[]) ∧ InBox w' fb 1 (((fcells age (.slice ps F.seen.data.length capS) vsb vf vfb F.waits).setIfInBounds 1 vd').setIfInBounds (1 + 1) vb') base vd' vb' (F.seen.put E d) ∧
      (∀ k ∈ ob vd', k ∈ ob (Value.slice ps F.seen.data.length capS) ∨ w.heap.size ≤ k) ∧ ob vb' = ob vsb ∧ Touch w w' (fb :: ob (Value.slice ps F.seen.data.length capS) ++ ob vsb)) := by rw [hE]; exact hp
    have HA : Hid (F.add d = ⟨F.seen.put E d, F.safe, M⟩ ∧ FileV w base fb age (.slice ps F.seen.data.length capS) vsb vf vfb F) := ⟨hadd, hV⟩
    clear hp hadd hV hI hfew hn hl hsn hok hbase hE hQ hM hd
    go_enter Tryz.func68, Tryz.ntmps68
    go_wp2_with fail
    refine HP.out.mono ?_
    rintro e w1 ⟨vd', vb', rfl, hI1, hf1, ho1, ht1⟩
    have hI2 : InBox w1 fb 1 (fcells age vd' vb' vf vfb F.waits) base vd' vb' (F.seen.put E d) := hI1
    have c15 : w1.cell? ⟨fb, 5, none⟩ = some (.int .i64 (F.waits : Int)) := hI2.box.cell 5
    have f15 : w1.frozen? ⟨fb, 5, none⟩ = false := hI2.box.frozen 5
    have H1 : Hid (InBox w1 fb 1 (fcells age vd' vb' vf vfb F.waits) base vd' vb' (F.seen.put E d) ∧ (∀ k ∈ ob vd', k ∈ ob (Value.slice ps F.seen.data.length capS) ∨ w.heap.size ≤ k) ∧ ob vb' = ob vsb ∧ Touch w w1 (fb :: ob (Value.slice ps F.seen.data.length capS) ++ ob vsb)) := ⟨hI2, hf1, ho1, ht1⟩
    clear hI1 hI2 hf1 ho1 ht1
    go_wp2
    go_end0
    obtain ⟨hI2, hf1, ho1, ht1⟩ := H1.out
    obtain ⟨hadd, hV⟩ := HA.out
    obtain ⟨r1, r2, r3⟩ := hV.seen_put (k := M) hI2 hf1 (fun k hk => .inl (ho1 ▸ hk)) ht1 rfl
    exact ⟨_, rfl, ⟨vd', vb', vf, vfb, by rw [hadd]; exact r1, rfl⟩, r3, r2⟩

end Go.Proofs.YtkfjkfpodkbkaaaGreatDoor

set_option linter.unusedVariables false
set_option linter.unusedSimpArgs false
namespace Go.Proofs.YtkfjkfpodkbkaaaGreatDoor
open Go Go.RowKit

theorem ownsRow_heap {w w' : World} {base : Nat} {e : TypeId} {size : Nat} {v : Value} {n : Nat} {xs : List Value} (hh : w'.heap = w.heap) (h : w.ownsRow base e size v n xs) : w'.ownsRow base e size v n xs := by
  unfold World.ownsRow at h ⊢; rw [hh]; exact h
theorem Box.heap {w w' : World} {k : Nat} {cs : Array Value} (hh : w'.heap = w.heap) (h : Box w k cs) : Box w' k cs := by
  obtain ⟨t, h⟩ := h; exact ⟨t, by rw [hh]; exact h⟩
theorem FileV.heap {w w' : World} {base fb : Nat} {age : Int} {vs vsb vf vfb : Value} {F : Fil} (hh : w'.heap = w.heap) (h : FileV w base fb age vs vsb vf vfb F) : FileV w' base fb age vs vsb vf vfb F :=
  ⟨h.box.heap hh, ownsRow_heap hh h.sd, ownsRow_heap hh h.sb, ownsRow_heap hh h.fd, ownsRow_heap hh h.fbd, h.nd⟩

/-- The safe content is another one, and the number of the first sector that waits. -/
theorem FileV.safe_put {w0 w1 w' : World} {base fb : Nat} {age : Int} {vs vsb vf vfb vf' vfb' : Value} {F : Fil} {c' : Con} {k : Nat} (h : FileV w0 base fb age vs vsb vf vfb F) (hI : InBox w1 fb 3 (fcells age vs vsb vf' vfb' F.waits) base vf' vfb' c')
    (hf1 : ∀ k ∈ ob vf', k ∈ ob vf ∨ w0.heap.size ≤ k) (hf2 : ∀ k ∈ ob vfb', k ∈ ob vfb ∨ w0.heap.size ≤ k) (t : Touch w0 w1 (fb :: ob vf ++ ob vfb)) (hw : w' = w1.setCell ⟨fb, 5, none⟩ (.int .i64 (k : Int))) :
    FileV w' base fb age vs vsb vf' vfb' ⟨F.seen, c', k⟩ ∧ Touch w0 w' (fb :: (ob vs ++ (ob vsb ++ (ob vf ++ ob vfb)))) ∧ (∀ k ∈ fb :: (ob vs ++ (ob vsb ++ (ob vf' ++ ob vfb'))), k ∈ fb :: (ob vs ++ (ob vsb ++ (ob vf ++ ob vfb))) ∨ w0.heap.size ≤ k) := by
  subst hw
  have nd := h.nd
  rw [List.nodup_cons, List.nodup_append, List.nodup_append] at nd
  obtain ⟨n1, n2, ⟨n3, n4, n5⟩, n6⟩ := nd
  have tc : Touch w1 (w1.setCell ⟨fb, 5, none⟩ (.int .i64 (k : Int))) [fb] := (Touch.refl _ _).setCell (.inl (by simp)) _ _
  have nI := hI.nd
  rw [List.cons_append, List.nodup_cons] at nI
  have hvs : ∀ k, vs.ownBlock = some k → k ∉ fb :: ob vf ++ ob vfb := fun k hk hm => by
    have hk' := mem_ob.2 hk
    simp only [List.cons_append, List.mem_cons, List.mem_append] at hm
    rcases hm with rfl | hm | hm
    · exact n1 (by simp [hk'])
    · exact n6 k hk' k (by simp [hm]) rfl
    · exact n6 k hk' k (by simp [hm]) rfl
  have hvsb : ∀ k, vsb.ownBlock = some k → k ∉ fb :: ob vf ++ ob vfb := fun k hk hm => by
    have hk' := mem_ob.2 hk
    simp only [List.cons_append, List.mem_cons, List.mem_append] at hm
    rcases hm with rfl | hm | hm
    · exact n1 (by simp [hk'])
    · exact n5 k hk' k (by simp [hm]) rfl
    · exact n5 k hk' k (by simp [hm]) rfl
  have hnew : ∀ k ∈ ob vf' ++ ob vfb', k ∈ ob vf ++ ob vfb ∨ w0.heap.size ≤ k := fun k hk => by
    rcases List.mem_append.1 hk with h2 | h2
    · exact (hf1 k h2).imp (fun h3 => List.mem_append_left _ h3) id
    · exact (hf2 k h2).imp (fun h3 => List.mem_append_right _ h3) id
  have hlt : ∀ k ∈ ob vs ++ ob vsb, k < w0.heap.size := fun k hk => h.lt k (by simp only [List.mem_append] at hk; simp only [List.mem_cons, List.mem_append]; rcases hk with h | h <;> simp [h])
  refine ⟨⟨?_, ?_, ?_, ?_, ?_, ?_⟩, ?_, fun k hk => ?_⟩
  · exact hI.box.set 5 (.int .i64 (k : Int))
  · exact Touch.row (Touch.row h.sd t hvs) tc (fun j hj => by simp; rintro rfl; exact n1 (by simp [mem_ob.2 hj]))
  · exact Touch.row (Touch.row h.sb t hvsb) tc (fun j hj => by simp; rintro rfl; exact n1 (by simp [mem_ob.2 hj]))
  · exact Touch.row hI.dat tc (fun j hj => by simp; rintro rfl; exact nI.1 (List.mem_append_left _ (mem_ob.2 hj)))
  · exact Touch.row hI.bad tc (fun j hj => by simp; rintro rfl; exact nI.1 (List.mem_append_right _ (mem_ob.2 hj)))
  · rw [List.nodup_cons, List.nodup_append, List.nodup_append]
    refine ⟨fun hm => ?_, n2, ⟨n3, nI.2, fun x hx y hy e => ?_⟩, fun x hx y hy e => ?_⟩
    · simp only [List.mem_append] at hm
      rcases hm with hm | hm | hm | hm
      · exact n1 (by simp [hm])
      · exact n1 (by simp [hm])
      · exact nI.1 (List.mem_append_left _ hm)
      · exact nI.1 (List.mem_append_right _ hm)
    · subst e
      rcases hnew x hy with h2 | h2
      · exact n5 x hx x h2 rfl
      · have := hlt x (List.mem_append_right _ hx); omega
    · subst e
      rcases List.mem_append.1 hy with h3 | h3
      · exact n6 x hx x (List.mem_append_left _ h3) rfl
      · rcases hnew x h3 with h2 | h2
        · exact n6 x hx x (List.mem_append_right _ h2) rfl
        · have := hlt x (List.mem_append_left _ hx); omega
  · exact (t.mono (fun k hk => .inl (by simp only [List.cons_append, List.mem_cons, List.mem_append] at hk; simp only [List.mem_cons, List.mem_append]; rcases hk with h | h | h <;> simp [h]))).trans tc (fun k hk => .inl (by simp at hk; simp [hk]))
  · simp only [List.mem_cons, List.mem_append] at hk ⊢
    rcases hk with h2 | h2 | h2 | h2 | h2
    · exact .inl (.inl h2)
    · exact .inl (.inr (.inl h2))
    · exact .inl (.inr (.inr (.inl h2)))
    · exact (hf1 k h2).imp (fun h3 => .inr (.inr (.inr (.inl h3)))) id
    · exact (hf2 k h2).imp (fun h3 => .inr (.inr (.inr (.inr h3)))) id

theorem OwnB.sl0 {w : World} {base : Nat} {p : Option Addr} {cap : Nat} {bs : List UInt8} (h : OwnB w base (.slice p bs.length cap) bs) (s : Nat) (hs : s < bs.length) (g : Nat) (hp : p = some ⟨g, 0, none⟩) :
    Sl 0 w (.slice (some ⟨g, s, none⟩) (bs.length - s) (cap - s)) (bs.drop s) := by
  subst hp
  obtain ⟨ao, cap', e, h1, _, h3⟩ := h.sl
  simp only [Value.slice.injEq] at e
  obtain ⟨rfl, _, rfl⟩ := e
  obtain ⟨b, o, e2, _, hat⟩ := h3 (by intro e; rw [e] at hs; simp at hs)
  simp only [Option.some.injEq, Addr.mk.injEq] at e2
  obtain ⟨rfl, rfl, _⟩ := e2
  refine ⟨_, _, by rw [List.length_drop], by rw [List.length_drop]; omega, (by intro e; cases e), fun _ => ⟨_, _, rfl, Nat.zero_le _, fun i hi => ?_⟩⟩
  rw [List.length_drop] at hi
  have := hat (s + i) (by omega)
  rw [Nat.zero_add] at this
  rw [this]
  simp

set_option maxRecDepth 20000 in
theorem waiting_any (base fb : Nat) (age : Int) (F : Fil) (L : List Nat) (w : World) (hF : FileAt w base fb age F L) (hok : F.Ok) (hl : F.seen.data.length ≤ CB) :
    Calls Tryz.prog 54 #[.pointer (some ⟨fb, 0, none⟩)] w fun e w' => e = .returned (.int .i64 (F.waiting : Nat)) ∧ ∃ q, w' = w.drewN q := by
  obtain ⟨vs, vsb, vf, vfb, hV, rfl⟩ := hF
  obtain ⟨ps, capS, rfl⟩ := hV.sd.slice
  have c1 : w.cell? ⟨fb, 1, none⟩ = some (.slice ps F.seen.data.length capS) := hV.box.cell 1
  have c5 : w.cell? ⟨fb, 5, none⟩ = some (.int .i64 (F.waits : Int)) := hV.box.cell 5
  have hwl := hok.wle
  have hsec := fun u => sectors_any F.seen.data.length (by unfold CB at hl; omega) u
  obtain ⟨S, hS⟩ : ∃ S, sec F.seen.data.length = S := ⟨_, rfl⟩
  have hw : F.waiting = S - F.waits := by unfold Fil.waiting; rw [hS]
  rw [hS] at hsec hwl
  have e1 : (S : Int) - (F.waits : Int) = ((F.waiting : Nat) : Int) := by omega
  have e2 : (S : Int) ≤ 4611686018427387904 := by rw [← hS]; unfold CB at hl; unfold sec; omega
  have e3 : (0 : Int) ≤ (S : Int) := by omega
  have e4 : (0 : Int) ≤ (F.waits : Int) := by omega
  have e5 : (F.waits : Int) ≤ (S : Int) := by omega
  have e6 : IntKind.i64.wrap ((F.waiting : Nat) : Int) = ((F.waiting : Nat) : Int) := by rw [IntKind.wrap_i64]; omega
  have HS : Hid (∀ u, Calls Tryz.prog 94 #[.int .i64 (F.seen.data.length : Int)] u fun e w' => e = .returned (.int .i64 (S : Int)) ∧ w' = u) := hsec
  clear hV hl hok hsec hS hw hwl
  generalize F.waiting = W at *
  go_enter Tryz.func54, Tryz.ntmps54
  go_wp2
  go_quiet ((go_at_call 94; exact Calls.quiet_of_same (HS.out _)))
  go_wp2
  go_ret
  exact ⟨rfl, _, rfl⟩

end Go.Proofs.YtkfjkfpodkbkaaaGreatDoor
