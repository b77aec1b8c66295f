/- Merged: DkArm, SgSick0. -/
import Derived.Test.YtfhcnciimnhnlaaGreatDoorMg30
import Derived.Test.YtfhcnciimnhnlaaGreatDoorMg47
set_option linter.unusedVariables false
set_option linter.unusedSimpArgs false
namespace Go.Proofs.YtfhcnciimnhnlaaGreatDoor
open Go Go.RowKit Go.Maps

theorem Up.trans_grown {a b c : World} {k : Nat} (h : Up a b) (g : b.grownBy c (some k)) (hk : a.heap.size ≤ k) : Up a c :=
  Touch.up ((Touch.of_up h [k]).trans (Touch.of_grown g (S := [k]) (fun j hj => by cases hj; simp)) (fun j hj => .inl hj)) (fun j hj => by simp at hj; subst hj; exact hk)

/-- Something else is armed. -/
theorem DiskV.armed {w w' : World} {base db : Nat} {D : Dsk} {bs bf : Nat} {vch : Value} {mp : Option Nat} {fl : Fls} {b : Nat} {p : Int → Option Int} {c : Int} (h : DiskV w base db D bs bf vch mp fl) (t : Touch w w' [db]) (hb : Box w' db (dcells bs bf vch { D with ahead := D.ops, parts := p, cut := c } (some b))) (hp : PartsIs w' (some b) p) (hbn : w.heap.size ≤ b) (hbase : base ≤ w.heap.size) :
    DiskV w' base db { D with ahead := D.ops, parts := p, cut := c } bs bf vch (some b) fl ∧ (∀ k ∈ dl db bs bf vch (some b) fl, k ∈ dl db bs bf vch mp fl ∨ w.heap.size ≤ k) := by
  have nd := h.nd
  rw [List.nodup_cons] at nd
  have hne : ∀ k ∈ bs :: bf :: (ob vch ++ (mp.toList ++ fl.flatMap (·.2))), k ∉ [db] := fun k hk hm => by
    simp only [List.mem_singleton] at hm
    subst hm
    exact nd.1 hk
  have hnew : ∀ k ∈ dl db bs bf vch (some b) fl, k ∈ dl db bs bf vch mp fl ∨ w.heap.size ≤ k := fun k hk => by
    simp only [dl, Option.toList, List.mem_cons, List.mem_append, List.not_mem_nil, or_false] at hk ⊢
    rcases hk with r | r | r | r | r | r
    · exact .inl (.inl r)
    · exact .inl (.inr (.inl r))
    · exact .inl (.inr (.inr (.inl r)))
    · exact .inl (.inr (.inr (.inr (.inl r))))
    · subst r; exact .inr hbn
    · exact .inl (.inr (.inr (.inr (.inr (.inr r)))))
  refine ⟨⟨hb, ?_, ?_, ?_, hp, h.len, fun i F hi => ?_, ?_, fun k hk => ?_⟩, hnew⟩
  · exact h.see.kept t (hne _ (by simp))
  · obtain ⟨n, q, r⟩ := h.saf; exact ⟨n, q, r.kept t (hne _ (by simp))⟩
  · exact Touch.row h.chg t (fun k hk => hne k (by simp [mem_ob.2 hk]))
  · obtain ⟨p, hp, hf⟩ := h.fil i F hi
    exact ⟨p, hp, hf.kept t (fun k hk => hne k (by
      have : k ∈ fl.flatMap (·.2) := List.mem_flatMap.2 ⟨p, List.mem_of_getElem? hp, hk⟩
      simp [this]))⟩
  · have hA : dl db bs bf vch mp fl = (db :: bs :: bf :: ob vch) ++ mp.toList ++ fl.flatMap (·.2) := by simp [dl]
    have hB : dl db bs bf vch (some b) fl = (db :: bs :: bf :: ob vch) ++ [b] ++ fl.flatMap (·.2) := by simp [dl]
    rw [hB]
    exact nodup_swap (n := w.heap.size) (by rw [← hA]; exact h.nd) (by simp) (fun k hk => by simp at hk; subst hk; exact .inr hbn) (fun k hk => h.lt k (by rw [hA]; exact hk))
  · rcases hnew k hk with r | r
    · exact h.ge k r
    · omega

def onePart (part : Int) : Int → Option Int := fun k => if k = 1 then some part else none
theorem onePart_is {w : World} {b n : Nat} {part : Int} (h : w.ownsMap Tryz.prog 3 (plainElem (H := Unit) Tryz.prog 3) b n ((DataW.map []).put (.int .i64 1) (.lit (.int .i64 part)))) : PartsIs w (some b) (onePart part) := by
  refine ⟨_, n, h, fun k => ?_⟩
  by_cases e : k = 1
  · subst e
    have hk : WideAt.IsKeyLit (Lit.int .i64 1) := True.intro
    rw [atKey_put_same isMap_empty hk, has_put_same isMap_empty hk]
    simp [onePart]
  · have hne : (Lit.int .i64 k) ≠ .int .i64 1 := by simpa using e
    rw [atKey_put_other hne, has_put_other hne]
    simp only [onePart, if_neg e]
    exact ⟨rfl, rfl⟩

set_option maxRecDepth 20000 in
set_option maxHeartbeats 800000 in
theorem partsOf_one (g : Nat) (part : Int) (w : World) (h0 : w.cell? ⟨g, 0, none⟩ = some (.int .i64 1)) (h1 : w.cell? ⟨g, 1, none⟩ = some (.int .i64 part)) (hp : -9223372036854775808 ≤ part ∧ part ≤ 9223372036854775807) :
    Calls Tryz.prog 86 #[.slice (some ⟨g, 0, none⟩) 1 1] w fun e w' => ∃ b, e = .returned (.map (some b)) ∧ PartsIs w' (some b) (onePart part) ∧ w.heap.size ≤ b ∧ Up w w' := by
  have hmm := @run_makeMap Tryz.prog
  obtain ⟨B, hB⟩ : ∃ B, w.heap.size = B := ⟨_, rfl⟩
  obtain ⟨W1, hW1⟩ : ∃ W1, w.alloc (.map #[] 0) = W1 := ⟨_, rfl⟩
  have hown1 : W1.ownsMap Tryz.prog 3 (plainElem (H := Unit) Tryz.prog 3) B 0 (.map []) := by rw [← hW1, ← hB]; exact World.ownsMap_made _ _ _ _
  have u1 : Up w W1 := by rw [← hW1]; exact Up.alloc _ _
  have s1 : W1.heap.size = B + 1 := by rw [← hW1, ← hB]; simp
  obtain ⟨W2, hW2⟩ : ∃ W2, W1.alloc (.cells #[.int .i64 1, .int .i64 part] 86) = W2 := ⟨_, rfl⟩
  have hown2 : W2.ownsMap Tryz.prog 3 (plainElem (H := Unit) Tryz.prog 3) B 0 (.map []) := by rw [← hW2]; exact hown1.alloc _
  have u2 : Up W1 W2 := by rw [← hW2]; exact Up.alloc _ _
  have b2 : Box W2 (B + 1) #[.int .i64 1, .int .i64 part] := by rw [← hW2]; exact Box.newAt s1
  have k0 : W2.cell? ⟨B + 1, 0, none⟩ = some (.int .i64 1) := b2.cell 0
  have k1 : W2.cell? ⟨B + 1, 1, none⟩ = some (.int .i64 part) := b2.cell 1
  have g0 : W1.cell? ⟨g, 0, none⟩ = some (.int .i64 1) := by rw [u1.cell (World.block_lt_of_cell? w _ h0)]; exact h0
  have g1 : W1.cell? ⟨g, 1, none⟩ = some (.int .i64 part) := by rw [u1.cell (World.block_lt_of_cell? w _ h1)]; exact h1
  have HH : Hid (Up w W2 ∧ w.heap.size = B) := ⟨u1.trans u2, hB⟩
  have HP : Hid ((Lit.int .i64 part).wf = true ∧ (Lit.int .i64 1).wf = true) := ⟨WalkArith.wf_i64 hp, by decide⟩
  clear h0 h1 hp hown1 u1 u2 b2
  go_enter Tryz.func86, Tryz.ntmps86
  go_wp2_with fail
  refine wp_loop_rounds 2 ?_
  rw [rounds_succ]
  go_wp2_with (first
    | (at_lookup; refine wpList_lookup_own_ok_int _ rfl _ _ 95 rfl 3 3 .i64 intLaw Tryz.underlying95 Tryz.underlying3 (zeroInt _) B 0 _ rfl hown2 _ _ rfl (keyOf_int_mk Tryz.underlying3 HP.out.2) ?_; intro c hat hwc)
    | (at_mapUpdate; refine wpList_mapUpdate_own _ rfl _ _ _ 95 rfl 3 3 intLaw Tryz.underlying95 (plainElem (H := Unit) Tryz.prog 3) B 0 _ rfl hown2 (by unfold maxLen; omega) _ _ _ rfl rfl (keyOf_int_mk Tryz.underlying3 HP.out.2) _ [] (plainElem_int Tryz.underlying3 HP.out.1) ?_; intro w3 hown3 hg3; have H3 : Hid (w3.ownsMap Tryz.prog 3 (plainElem (H := Unit) Tryz.prog 3) B 1 ((DataW.map []).put (.int .i64 1) (.lit (.int .i64 part))) ∧ W2.grownBy w3 (some B)) := ⟨hown3, hg3⟩; clear hown3 hg3))
  rw [rounds_succ]
  go_wp2
  go_ret
  obtain ⟨r1, r2⟩ := H3.out
  exact ⟨B, rfl, onePart_is r1, by rw [HH.out.2]; exact Nat.le_refl _, (HH.out.1).trans_grown r2 (by have := HH.out.2; omega)⟩

set_option maxRecDepth 20000 in
set_option maxHeartbeats 800000 in
theorem Arm_one (base db : Nat) (D : Dsk) (L : List Nat) (g : Nat) (part : Int) (w : World) (h : DiskAt w base db D L) (hd : D.down = false) (hgL : g ∉ L) (h0 : w.cell? ⟨g, 0, none⟩ = some (.int .i64 1)) (h1 : w.cell? ⟨g, 1, none⟩ = some (.int .i64 part)) (hp : -9223372036854775808 ≤ part ∧ part ≤ 9223372036854775807) (hbase : base ≤ w.heap.size) :
    Calls Tryz.prog 33 #[.pointer (some ⟨db, 0, none⟩), .slice (some ⟨g, 0, none⟩) 1 1, .int .i64 0] w fun e w' => e = .returned (.tuple #[]) ∧ OpDone w base db { D with ahead := D.ops, parts := onePart part, cut := 0 } L w' := by
  obtain ⟨bs, bf, vch, mp, fl, hV, rfl⟩ := h
  have hr := ready_up db w ((hV.box.cell 5).trans (by rw [← hd]; rfl))
  have ud := Up.drew w
  have hpa := partsOf_one g part w.drew h0 h1 hp
  have HH : Hid (DiskV w base db D bs bf vch mp fl ∧ base ≤ w.heap.size) := ⟨hV, hbase⟩
  have hs : w.drew.cell? ⟨db, 4, none⟩ = some (.int .i64 (D.ops : Int)) := hV.box.cell 4
  have hdl := hV.box.lt
  clear hV hd hgL h0 h1 hp hbase
  go_enter Tryz.func33, Tryz.ntmps33
  go_wp2_with fail
  refine hr.mono ?_
  rintro e w1 ⟨rfl, hw⟩
  obtain rfl : w = w1 := hw.symm
  clear hr
  go_wp2_with fail
  refine wp_region_held_drew (S := fun u => u.cell? ⟨db, 4, none⟩ = some (.int .i64 (D.ops : Int))) (by kernel_rfl) hs (fun hs0 => ?_)
  refine take_to (some 9) (i := 0) (v := .pointer (some ⟨db, 0, none⟩)) rfl rfl (by kernel_rfl) (by kernel_rfl) (by kernel_rfl) (fun _ _ _ h => h) (Or.inl ⟨by kernel_rfl, by intro u hSu; go_simp⟩) hs ?_
  simp only [Act.put, List.setIfInBounds_toArray, List.set_cons_zero, List.set_cons_succ]
  refine take_to (some 10) (i := 1) (v := .pointer (some ⟨db, 0, none⟩)) rfl rfl (by kernel_rfl) (by kernel_rfl) (by kernel_rfl) (fun _ _ _ h => h) (Or.inl ⟨by kernel_rfl, by intro u hSu; go_simp⟩) hs ?_
  simp only [Act.put, List.setIfInBounds_toArray, List.set_cons_zero, List.set_cons_succ]
  refine take_to (some 11) (i := 2) (v := .pointer (some ⟨db, 0, none⟩)) rfl rfl (by kernel_rfl) (by kernel_rfl) (by kernel_rfl) (fun _ _ _ h => h) (Or.inl ⟨by kernel_rfl, by intro u hSu; go_simp⟩) hs ?_
  simp only [Act.put, List.setIfInBounds_toArray, List.set_cons_zero, List.set_cons_succ]
  refine take_to (some 12) (i := 3) (v := .pointer (some ⟨db, 4, none⟩)) rfl rfl (by kernel_rfl) (by kernel_rfl) (by kernel_rfl) (fun _ _ _ h => h) (Or.inl ⟨by kernel_rfl, by intro u hSu; go_simp⟩) hs ?_
  simp only [Act.put, List.setIfInBounds_toArray, List.set_cons_zero, List.set_cons_succ]
  refine take_to (some 13) (i := 4) (v := .int .i64 (D.ops : Int)) rfl rfl (by kernel_rfl) (by kernel_rfl) (by kernel_rfl) (fun _ _ _ h => h) (Or.inl ⟨by kernel_rfl, by intro u hSu; have q0 := hSu; go_simp⟩) hs ?_
  simp only [Act.put, List.setIfInBounds_toArray, List.set_cons_zero, List.set_cons_succ]
  refine take_to (some 14) (i := 5) (v := .slice (some ⟨g, 0, none⟩) 1 1) rfl rfl (by kernel_rfl) (by kernel_rfl) (by kernel_rfl) (fun _ _ _ h => h) (Or.inl ⟨by kernel_rfl, by intro u hSu; go_simp⟩) hs ?_
  simp only [Act.put, List.setIfInBounds_toArray, List.set_cons_zero, List.set_cons_succ]
  refine take_to (some 16) (i := 7) (v := .int .i64 0) rfl rfl (by kernel_rfl) (by kernel_rfl) (by kernel_rfl) (fun _ _ _ h => h) (Or.inl ⟨by kernel_rfl, by intro u hSu; go_simp⟩) hs ?_
  simp only [Act.put, List.setIfInBounds_toArray, List.set_cons_zero, List.set_cons_succ]
  refine wpAnyH_ready (rs := [6]) (by kernel_rfl) (by simp) ?_
  refine AllReadyH.cons rfl (fun K hK => ?_) AllReadyH.nil
  go_simp
  refine hpa.mono ?_
  rintro e w2 ⟨b, rfl, hp2, hb2, u2⟩
  have hs2 : w2.cell? ⟨db, 4, none⟩ = some (.int .i64 (D.ops : Int)) := by rw [u2.cell (World.block_lt_of_cell? _ _ hs)]; exact hs
  refine hK.out _ _ hs2 (fun _ => ?_)
  clear hK K
  refine wpAnyH_ready (rs := [8]) (by kernel_rfl) (by simp) ?_
  refine AllReadyH.cons rfl (fun K hK => ?_) AllReadyH.nil
  go_simp
  refine hK.out _ _ hs2 (fun _ => ?_)
  clear hK K
  refine take_to (some 18) (i := 9) (v := .pointer (some ⟨db, 0, none⟩)) rfl rfl (by kernel_rfl) (by kernel_rfl) (by kernel_rfl) (fun _ _ _ h => h) (Or.inl ⟨by kernel_rfl, by intro u hSu; go_simp⟩) hs2 ?_
  simp only [Act.put, List.setIfInBounds_toArray, List.set_cons_zero, List.set_cons_succ]
  refine take_to (some 19) (i := 10) (v := .pointer (some ⟨db, 6, none⟩)) rfl rfl (by kernel_rfl) (by kernel_rfl) (by kernel_rfl) (fun _ _ _ h => h) (Or.inl ⟨by kernel_rfl, by intro u hSu; go_simp⟩) hs2 ?_
  simp only [Act.put, List.setIfInBounds_toArray, List.set_cons_zero, List.set_cons_succ]
  refine wpAnyH_ready (rs := [11]) (by kernel_rfl) (by simp) ?_
  refine AllReadyH.cons rfl (fun K hK => ?_) AllReadyH.nil
  have bx := (HH.out.1.box.up (ud.trans u2))
  have f6 := bx.frozen 6
  have f7 := bx.frozen 7
  have f8 := bx.frozen 8
  have k6 : w2.cell? ⟨db, 6, none⟩ = some (.int .i64 (D.ahead : Int)) := bx.cell 6
  have k7 : w2.cell? ⟨db, 7, none⟩ = some (.map mp) := bx.cell 7
  have k8 : w2.cell? ⟨db, 8, none⟩ = some (.int .i64 D.cut) := bx.cell 8
  go_simp
  have bn := ((bx.set 6 (.int .i64 (D.ops : Int))).set 7 (.map (some b))).set 8 (.int .i64 0)
  refine hK.out _ _ (bn.cell 4) (fun _ => ?_)
  clear hK K
  refine wpAnyH_done (by kernel_rfl) ?_ _
  go_wp2
  go_end0
  obtain ⟨hV, hbase⟩ := HH.out
  have uw : Up w w2 := ud.trans u2
  have t3 : Touch w2 (((w2.setCell ⟨db, 6, none⟩ (.int .i64 (D.ops : Int))).setCell ⟨db, 7, none⟩ (.map (some b))).setCell ⟨db, 8, none⟩ (.int .i64 0)) [db] := (((Touch.refl _ _).setCell (.inl (by simp)) _ _).setCell (.inl (by simp)) _ _).setCell (.inl (by simp)) _ _
  have tt := (Touch.of_up uw [db]).trans t3 (fun k hk => .inl hk)
  have hbn : w.heap.size ≤ b := Nat.le_trans ud.size hb2
  have e : dcells bs bf vch { D with ahead := D.ops, parts := onePart part, cut := 0 } (some b) = (((dcells bs bf vch D mp).setIfInBounds 6 (.int .i64 (D.ops : Int))).setIfInBounds 7 (.map (some b))).setIfInBounds 8 (.int .i64 0) := by simp [dcells]
  obtain ⟨q1, q2⟩ := hV.armed (p := onePart part) (c := 0) tt (by rw [e]; exact bn) (hp2.kept t3 (fun k hk => by cases hk; simp; omega)) hbn hbase
  exact ⟨rfl, _, ⟨_, _, _, _, _, q1, rfl⟩, q2, tt.mono (fun k hk => .inl (by simp at hk; simp [hk]))⟩
end Go.Proofs.YtfhcnciimnhnlaaGreatDoor

set_option linter.unusedVariables false
set_option linter.unusedSimpArgs false
namespace Go.Proofs.YtfhcnciimnhnlaaGreatDoor
open Go Go.RowKit

theorem Ops_any (base db : Nat) (D : Dsk) (L : List Nat) (w : World) (h : DiskAt w base db D L) : Calls Tryz.prog 16 #[.pointer (some ⟨db, 0, none⟩)] w fun e w' => e = .returned (.int .i64 (D.ops : Int)) ∧ w' = w := by
  obtain ⟨bs, bf, vch, mp, fl, hV, rfl⟩ := h
  have c : w.cell? ⟨db, 4, none⟩ = some (.int .i64 (D.ops : Int)) := hV.box.cell 4
  clear hV
  go_enter Tryz.func16, Tryz.ntmps16
  go_wp2
  go_ret
  exact ⟨rfl, rfl⟩

/-- What the first operation is armed with. -/
theorem sick_fate (nm : Nm) (F : Fil) (part : Int) (room : Nat) : (sgD nm F 2 2 (onePart part) 0 room).fate = .fails part := by
  simp [Dsk.fate, sgD, onePart]
/-- The segment in the loop: its disk is armed somehow. -/
def Sk (W00 w : World) (db sb : Nat) (x : Nat) : Prop := ∃ a p L, a ≤ 2 ∧ SgAt W00 w db sb (nameB x) x 0 true false (sgD (nameB x) (Fil.made ⟨[], []⟩) 2 a p 0 3) L
theorem cutsB_le : ∀ (n : Nat) (rs : List Rec), (cutsB n rs).length ≤ n
  | 0, _ => by simp [cutsB]
  | n + 1, rs => by
    unfold cutsB
    split
    · simp
    · have := cutsB_le n (rs.drop (fitN 0 rs))
      simp only [List.length_cons]
      omega
theorem packB_le (first : Nat) (L : List Rec) (h : ∀ r ∈ L, r.length ≤ 200) (h1 : 1 ≤ first) (h2 : first + L.length ≤ 2 ^ 62 + 1) : (packB first L).length ≤ 512 * L.length := by
  have hl : (packB first L).length = 512 * (cutsB L.length L).length := pkB_length _ _ (cuts_fit _ _ _ h h1 h2)
  have := cutsB_le L.length L
  omega
theorem anyLong_pk {ad : Nat → Addr} {x : Nat} {L : List Rec} (hne : L ≠ []) (hn : NumOk x L.length) (hl : anyLong L = true) : pkE ad x L = E (ad 3) := by
  unfold pkE
  rw [if_neg hne, if_pos hn, if_pos hl]

/-- A disk is armed anew. -/
theorem SgAt.armed {W00 w w' : World} {db sb : Nat} {nm : Nm} {next blocks : Nat} {whole sick : Bool} {D D' : Dsk} {L : List Nat} (h : SgAt W00 w db sb nm next blocks whole sick D L) (hd : OpDone w W00.heap.size db D' L w') : ∃ L', SgAt W00 w' db sb nm next blocks whole sick D' L' := by
  obtain ⟨L', d1, d2, d3⟩ := hd
  refine ⟨L', d3.box h.box h.ns, d1, fun hm => ?_, h.new, Touch.up_of h.up d3 h.dsk.ge⟩
  rcases d2 sb hm with q | q
  · exact h.ns q
  · have := h.box.lt; omega
end Go.Proofs.YtfhcnciimnhnlaaGreatDoor
