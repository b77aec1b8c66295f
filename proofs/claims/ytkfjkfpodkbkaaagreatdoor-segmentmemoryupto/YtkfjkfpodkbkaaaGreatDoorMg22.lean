/- Merged: DkOp7, DkOp8. -/
import Derived.Test.YtkfjkfpodkbkaaaGreatDoorMg21
set_option linter.unusedVariables false
set_option linter.unusedSimpArgs false
namespace Go.Proofs.YtkfjkfpodkbkaaaGreatDoor
open Go Go.RowKit Go.Maps

theorem isName_any (x : Nm) (w : World) (hx : x ≠ []) (hl : x.length ≤ 64) : Calls Tryz.prog 84 #[Sv x] w fun e w' => e = .returned (.bool true) ∧ w' = w := by
  have hq : x.isEmpty = false := by cases x with | nil => exact absurd rfl hx | cons _ _ => rfl
  have h64 : (x.length : Int) ≤ 64 := by omega
  go_enter Tryz.func84, Tryz.ntmps84
  go_wp2
  go_ret
  exact ⟨rfl, rfl⟩

theorem create1_any (kd kn db bs n : Nat) (x : Nm) (m : Nm → Option Nat) (w : World) (cd : w.cell? ⟨kd, 0, none⟩ = some (.pointer (some ⟨db, 0, none⟩))) (cn : w.cell? ⟨kn, 0, none⟩ = some (Sv x)) (h0 : w.cell? ⟨db, 0, none⟩ = some (.map (some bs))) (hm : MapIs w bs n m) (hk : m x = none) (hx : x ≠ []) (hl : x.length ≤ 64) :
    Calls Tryz.prog 83 #[.pointer (some ⟨kn, 0, none⟩), .pointer (some ⟨kd, 0, none⟩)] w fun e w' => e = .returned .nilIface ∧ Up w w' := by
  have hin := isName_any x w hx hl
  have hlook : ∀ n, (Instr.lookup 79 (.map (some bs)) (Sv x) false).run Tryz.prog (w.drewN n) = .ok (.pointer none) (w.drewN n) := fun k => by
    have := (hm.up (up_drewN w k)).look (x := x) (by unfold maxLen; omega)
    rwa [hk] at this
  go_enter Tryz.func83, Tryz.ntmps83
  go_wp2_with fail
  refine hin.mono ?_
  rintro e w1 ⟨rfl, hw⟩
  obtain rfl : w = w1 := hw.symm
  clear hin
  go_wp2_with fail
  have c0' : w.drew.cell? ⟨db, 0, none⟩ = some (.map (some bs)) := h0
  have cd' : w.drew.cell? ⟨kd, 0, none⟩ = some (.pointer (some ⟨db, 0, none⟩)) := cd
  have cn' : w.drew.cell? ⟨kn, 0, none⟩ = some (Sv x) := cn
  go_quiet (fail)
  go_wp2
  go_ret
  exact ⟨rfl, up_drewN _ _⟩

theorem blk_app (fl : Fls) (p : Nat × List Nat) (i : Nat) (hi : i < fl.length) : blk (fl ++ [p]) i = blk fl i := by
  simp [blk, List.getD, List.getElem?_append_left hi]
theorem blk_new (fl : Fls) (p : Nat × List Nat) : blk (fl ++ [p]) fl.length = p.1 := by
  simp [blk, List.getD]

/-- A new file. -/
theorem DiskV.grow {w w' : World} {base db : Nat} {D : Dsk} {bs bf : Nat} {vch : Value} {mp : Option Nat} {fl : Fls} {F : Fil} {fb : Nat} {L : List Nat} (h : DiskV w base db D bs bf vch mp fl) (hok : D.Ok) (hF : FileAt w' base fb ((D.fs.length : Int) + 1) F L) (hb : Box w' db (dcells bs bf vch { D with fs := D.fs ++ [F] } mp)) (t : Touch w w' [db]) (hL : ∀ k ∈ L, w.heap.size ≤ k) (hbase : base ≤ w.heap.size) :
    DiskV w' base db { D with fs := D.fs ++ [F] } bs bf vch mp (fl ++ [(fb, L)]) := by
  have nd := h.nd
  rw [List.nodup_cons] at nd
  have hne : ∀ k ∈ bs :: bf :: (ob vch ++ (mp.toList ++ fl.flatMap (·.2))), k ∉ [db] := fun k hk hm => by
    simp only [List.mem_singleton] at hm
    subst hm
    exact nd.1 hk
  have e1 : nmap (fl ++ [(fb, L)]) D.seen = nmap fl D.seen := by
    funext x
    unfold nmap
    cases hx : D.seen x with
    | none => rfl
    | some i => simp [blk_app fl (fb, L) i (by rw [h.len]; exact hok.see x i hx)]
  have e2 : nmap (fl ++ [(fb, L)]) D.safe = nmap fl D.safe := by
    funext x
    unfold nmap
    cases hx : D.safe x with
    | none => rfl
    | some i => simp [blk_app fl (fb, L) i (by rw [h.len]; exact hok.saf x i hx)]
  have e3 : D.chg.flatMap (ccells (fl ++ [(fb, L)])) = D.chg.flatMap (ccells fl) := by
    have q : ∀ l : List Chg, (∀ c ∈ l, ∀ i, c.file = some i → i < fl.length) → l.flatMap (ccells (fl ++ [(fb, L)])) = l.flatMap (ccells fl) := by
      intro l
      induction l with
      | nil => intro _; rfl
      | cons c r ih =>
        intro hl
        rw [List.flatMap_cons, List.flatMap_cons, ih (fun d hd => hl d (List.mem_cons_of_mem _ hd))]
        congr 1
        unfold ccells
        cases hf : c.file with
        | none => rfl
        | some i => simp [blk_app fl (fb, L) i (hl c (List.mem_cons_self ..) i hf)]
    exact q D.chg (fun c hc i hi => by rw [h.len]; exact hok.chl c hc i hi)
  have eA : dl db bs bf vch mp (fl ++ [(fb, L)]) = dl db bs bf vch mp fl ++ L := by simp [dl]
  refine ⟨hb, ?_, ?_, ?_, ?_, ?_, fun i G hi => ?_, ?_, fun k hk => ?_⟩
  · show MapIs _ bs D.room (nmap (fl ++ [(fb, L)]) D.seen)
    rw [e1]; exact h.see.kept t (hne _ (by simp))
  · obtain ⟨n, q, r⟩ := h.saf
    refine ⟨n, q, ?_⟩
    show MapIs _ bf n (nmap (fl ++ [(fb, L)]) D.safe)
    rw [e2]; exact r.kept t (hne _ (by simp))
  · show w'.ownsRow base _ 3 vch D.chg.length (D.chg.flatMap (ccells (fl ++ [(fb, L)])))
    rw [e3]
    exact Touch.row h.chg t (fun k hk => hne k (by simp [mem_ob.2 hk]))
  · exact h.prt.kept t (fun k hk => hne k (by simp [hk]))
  · show (fl ++ [(fb, L)]).length = (D.fs ++ [F]).length
    simp [h.len]
  · have hi' : (D.fs ++ [F])[i]? = some G := hi
    rcases Nat.lt_or_ge i D.fs.length with hlt | hge
    · rw [List.getElem?_append_left hlt] at hi'
      obtain ⟨p, hp, hf⟩ := h.fil i G hi'
      exact ⟨p, by rw [List.getElem?_append_left (by rw [h.len]; exact hlt)]; exact hp, hf.kept t (fun k hk => hne k (by
        have : k ∈ fl.flatMap (·.2) := List.mem_flatMap.2 ⟨p, List.mem_of_getElem? hp, hk⟩
        simp [this]))⟩
    · rw [List.getElem?_append_right hge] at hi'
      have hz : i - D.fs.length = 0 := by
        have := (List.getElem?_eq_some_iff.1 hi').1
        simp at this; omega
      rw [hz] at hi'
      obtain rfl : F = G := by simpa using hi'
      obtain rfl : i = D.fs.length := by omega
      exact ⟨(fb, L), by rw [← h.len]; simp, hF⟩
  · rw [eA, List.nodup_append]
    refine ⟨h.nd, hF.nd, fun x hx y hy e => ?_⟩
    subst e
    have := h.lt x hx
    have := hL x hy
    omega
  · rw [eA] at hk
    rcases List.mem_append.1 hk with q | q
    · exact h.ge k q
    · have := hL k q; omega

set_option maxRecDepth 20000 in
set_option maxHeartbeats 800000 in
theorem create2_any (kd kn : Nat) (base db : Nat) (D : Dsk) (bs bf : Nat) (vch : Value) (mp : Option Nat) (fl : Fls) (w : World) (x : Nm) (h : DiskV w base db D bs bf vch mp fl) (hok : D.Ok)
    (cd : w.cell? ⟨kd, 0, none⟩ = some (.pointer (some ⟨db, 0, none⟩))) (cn : w.cell? ⟨kn, 0, none⟩ = some (Sv x))
    (hx : x ≠ []) (hl : x.length ≤ 64) (hn : D.room ≤ 100000000000) (hbase : base ≤ w.heap.size) (hkd : kd ∉ dl db bs bf vch mp fl) (hkn : kn ∉ dl db bs bf vch mp fl) :
    Calls Tryz.prog 85 #[.pointer (some ⟨kd, 0, none⟩), .pointer (some ⟨kn, 0, none⟩)] w fun e w' => e = .returned (.tuple #[]) ∧ ∃ L', DiskAt w' base db (D.made x) L' ∧ (∀ k ∈ L', k ∈ dl db bs bf vch mp fl ∨ w.heap.size ≤ k) ∧ Touch w w' (dl db bs bf vch mp fl) := by
  have ud := Up.drew w
  have hnum := hok.num.1
  have hnew := newFile_any db base D.fs.length (dcells bs bf vch D mp) (.slice none 0 0) (.slice none 0 0) ⟨[], []⟩ w.drew (h.box.up ud) rfl (by omega) (Own.nil _ _ _) (World.ownsRow_nil _ _ _ 1) (by simp [ob, Value.ownBlock]) (by simp [ob, Value.ownBlock]) (Nat.le_trans hbase ud.size) (by unfold CB; simp) (by simp)
  have HN : Hid (Calls Tryz.prog 49 #[.pointer (some ⟨db, 0, none⟩), .agg #[.slice none 0 0, .slice none 0 0]] w.drew fun e w' => ∃ fb L, e = .returned (.pointer (some ⟨fb, 0, none⟩)) ∧ DiskV w' base db { D with fs := D.fs ++ [Fil.made ⟨[], []⟩] } bs bf vch mp (fl ++ [(fb, L)]) ∧ Touch w w' [db] ∧ (∀ k ∈ L, w.heap.size ≤ k)) := by
    refine hnew.mono ?_
    rintro e w1 ⟨fb, vf, vfb, rfl, hfb, hV, hns, hB, t1⟩
    have hL : ∀ k ∈ fb :: (ob (.slice none 0 0) ++ (ob (.slice none 0 0) ++ (ob vf ++ ob vfb))), w.heap.size ≤ k := fun k hk => by
      simp only [ob, Value.ownBlock, Option.toList, List.nil_append, List.mem_cons] at hk
      rcases hk with rfl | hk
      · exact hfb
      · exact hns k hk
    have t : Touch w w1 [db] := (Touch.of_up ud [db]).trans t1 (fun k hk => .inl hk)
    refine ⟨fb, _, rfl, h.grow hok ⟨_, _, _, _, hV, rfl⟩ ?_ t hL hbase, t, hL⟩
    have e : dcells bs bf vch { D with fs := D.fs ++ [Fil.made ⟨[], []⟩] } mp = (dcells bs bf vch D mp).setIfInBounds 3 (.int .i64 ((D.fs.length : Int) + 1)) := by simp [dcells]
    rw [e]; exact hB
  obtain ⟨P, hP⟩ : ∃ P : World → Prop, P = fun u => u.cell? ⟨kd, 0, none⟩ = some (.pointer (some ⟨db, 0, none⟩)) ∧ u.cell? ⟨kn, 0, none⟩ = some (Sv x) := ⟨_, rfl⟩
  have p0 : P w := by rw [hP]; exact ⟨cd, cn⟩
  have pk : ∀ {u u' : World} {S : List Nat}, P u → Touch u u' S → kd ∉ S → kn ∉ S → P u' := by
    intro u u' S hu t h1 h2
    rw [hP] at hu ⊢
    obtain ⟨q1, q2⟩ := hu
    exact ⟨by rw [World.cell?_of_block (t.block kd (World.block_lt_of_cell? u _ q1) h1)]; exact q1, by rw [World.cell?_of_block (t.block kn (World.block_lt_of_cell? u _ q2) h2)]; exact q2⟩
  have pc : ∀ u, P u → u.cell? ⟨kd, 0, none⟩ = some (.pointer (some ⟨db, 0, none⟩)) ∧ u.cell? ⟨kn, 0, none⟩ = some (Sv x) := fun u hu => by rw [hP] at hu; exact hu
  have HW : Hid (P w) := p0
  have hs : P w.drew := pk (S := []) p0 (Touch.of_up ud []) (by simp) (by simp)
  have hkdl : kd < w.heap.size := World.block_lt_of_cell? w _ cd
  have hknl : kn < w.heap.size := World.block_lt_of_cell? w _ cn
  have HH : Hid (∀ (w1 : World) (fb : Nat) (L : List Nat), DiskV w1 base db { D with fs := D.fs ++ [Fil.made ⟨[], []⟩] } bs bf vch mp (fl ++ [(fb, L)]) → Touch w w1 [db] → (∀ k ∈ L, w.heap.size ≤ k) → P w1 →
      Calls Tryz.prog 86 #[.pointer (some ⟨db, 0, none⟩), .agg #[.string ⟨#[]⟩, Sv x, .pointer (some ⟨fb, 0, none⟩)]] w1 fun e w' => e = .returned (.tuple #[]) ∧ P w' ∧ ∃ L', DiskAt w' base db (D.made x) L' ∧ (∀ k ∈ L', k ∈ dl db bs bf vch mp fl ∨ w.heap.size ≤ k) ∧ Touch w w' (dl db bs bf vch mp fl)) := by
    intro w1 fb L h1 t1 hL hp1
    have q := alter_any base db { D with fs := D.fs ++ [Fil.made ⟨[], []⟩] } bs bf vch mp (fl ++ [(fb, L)]) ⟨[], x, some D.fs.length⟩ D.fs.length w1 h1 hx rfl (by unfold maxLen; simp) (by show x.length ≤ maxLen; unfold maxLen; omega) hn (Nat.le_trans hbase t1.size)
    have eb : blk (fl ++ [(fb, L)]) D.fs.length = fb := by rw [← h.len]; exact blk_new fl (fb, L)
    rw [eb] at q
    have eA : dl db bs bf vch mp (fl ++ [(fb, L)]) = dl db bs bf vch mp fl ++ L := by simp [dl]
    rw [eA] at q
    refine q.mono ?_
    rintro e w2 ⟨rfl, v', h2, hn2, t2⟩
    refine ⟨rfl, pk hp1 t2 (fun hm => ?_) (fun hm => ?_), _, ⟨_, _, _, _, _, h2, rfl⟩, fun k hk => ?_, (t1.mono (fun k hk => .inl (by simp at hk; simp [hk]))).trans t2 (fun k hk => ?_)⟩
    · rcases List.mem_append.1 hm with r | r
      · exact hkd r
      · have := hL kd r; omega
    · rcases List.mem_append.1 hm with r | r
      · exact hkn r
      · have := hL kn r; omega
    · rcases hn2 k hk with r | r
      · rcases List.mem_append.1 r with r | r
        · exact .inl r
        · exact .inr (hL k r)
      · exact .inr (Nat.le_trans t1.size r)
    · rcases List.mem_append.1 hk with r | r
      · exact .inl r
      · exact .inr (hL k r)
  have HP : Hid (kd ≠ db ∧ kn ≠ db) := ⟨fun e => hkd (by simp [e]), fun e => hkn (by simp [e])⟩
  clear h hok cd cn hx hl hn hbase hkd hkn hnum hnew hP p0 hkdl hknl
  go_enter Tryz.func85, Tryz.ntmps85
  refine wp_region_held_drew (S := P) (by kernel_rfl) hs (fun hs0 => ?_)
  refine take_to (some 2) (i := 0) (v := .pointer (some ⟨db, 0, none⟩)) rfl rfl (by kernel_rfl) (by kernel_rfl) (by kernel_rfl) (fun _ _ _ h => h) (Or.inl ⟨by kernel_rfl, by intro u hSu; have q0 := (pc u hSu).1; go_simp⟩) hs ?_
  simp only [Act.put, List.setIfInBounds_toArray, List.set_cons_zero, List.set_cons_succ]
  refine take_to (some 3) (i := 1) (v := Sv x) rfl rfl (by kernel_rfl) (by kernel_rfl) (by kernel_rfl) (fun _ _ _ h => h) (Or.inl ⟨by kernel_rfl, by intro u hSu; have q0 := (pc u hSu).2; go_simp⟩) hs ?_
  simp only [Act.put, List.setIfInBounds_toArray, List.set_cons_zero, List.set_cons_succ]
  refine take_to (some 4) (i := 2) (v := .pointer (some ⟨db, 0, none⟩)) rfl rfl (by kernel_rfl) (by kernel_rfl) (by kernel_rfl) (fun _ _ _ h => h) (Or.inl ⟨by kernel_rfl, by intro u hSu; have q0 := (pc u hSu).1; go_simp⟩) hs ?_
  simp only [Act.put, List.setIfInBounds_toArray, List.set_cons_zero, List.set_cons_succ]
  refine take_to (some 5) (i := 3) (v := .agg #[.slice none 0 0, .slice none 0 0]) rfl rfl (by kernel_rfl) (by kernel_rfl) (by kernel_rfl) (fun _ _ _ h => h) (Or.inl ⟨by kernel_rfl, by intro u hSu; go_simp⟩) hs ?_
  simp only [Act.put, List.setIfInBounds_toArray, List.set_cons_zero, List.set_cons_succ]
  refine wpAnyH_ready (rs := [4]) (by kernel_rfl) (by simp) ?_
  refine AllReadyH.cons rfl (fun K hK => ?_) AllReadyH.nil
  go_simp
  refine HN.out.mono ?_
  rintro e w1 ⟨fb, L, rfl, h1, t1, hL1⟩
  have hs1 := pk HW.out t1 (by simpa using HP.out.1) (by simpa using HP.out.2)
  refine hK.out _ _ hs1 (fun _ => ?_)
  clear hK K
  refine wpAnyH_ready (rs := [5]) (by kernel_rfl) (by simp) ?_
  refine AllReadyH.cons rfl (fun K hK => ?_) AllReadyH.nil
  go_simp
  refine hK.out _ _ hs1 (fun _ => ?_)
  clear hK K
  refine wpAnyH_ready (rs := [6]) (by kernel_rfl) (by simp) ?_
  refine AllReadyH.cons rfl (fun K hK => ?_) AllReadyH.nil
  go_simp
  refine (HH.out w1 fb L h1 t1 hL1 hs1).mono ?_
  rintro e w2 ⟨rfl, hp2, r2⟩
  refine hK.out _ _ hp2 (fun _ => ?_)
  clear hK K
  refine wpAnyH_done (by kernel_rfl) ?_ _
  go_wp2
  go_end0
  exact ⟨rfl, r2⟩

end Go.Proofs.YtkfjkfpodkbkaaaGreatDoor

set_option linter.unusedVariables false
set_option linter.unusedSimpArgs false
namespace Go.Proofs.YtkfjkfpodkbkaaaGreatDoor
open Go Go.RowKit Go.Maps

theorem DiskV.named {w W1 w' : World} {base db : Nat} {D : Dsk} {bs bf : Nat} {vch : Value} {mp : Option Nat} {fl : Fls} {c : Chg} {j : Nat} (h : DiskV w base db D bs bf vch mp fl) (h1 : D.chg = [c]) (hc : c.tt ≠ []) (hf : c.file = some j) (n : Nat) (hn : n + 1 ≤ D.room)
    (hm : MapIs W1 bf (n + 1) (upd (upd (nmap fl D.safe) c.frm none) c.tt (some (blk fl j)))) (t1 : Touch w W1 [bf]) (hw : w' = W1.setCell ⟨db, 2, none⟩ (.slice none 0 0)) :
    DiskV w' base db D.named bs bf (.slice none 0 0) mp fl ∧ (∀ k ∈ dl db bs bf (.slice none 0 0) mp fl, k ∈ dl db bs bf vch mp fl ∨ w.heap.size ≤ k) ∧ Touch w w' (dl db bs bf vch mp fl) := by
  subst hw
  have nd := h.nd
  simp only [dl, List.nodup_cons, List.mem_cons, not_or] at nd
  obtain ⟨⟨n1, n2, n3⟩, ⟨n4, n5⟩, n6, n7⟩ := nd
  have t4 : Touch W1 (W1.setCell ⟨db, 2, none⟩ (.slice none 0 0)) [db] := (Touch.refl _ _).setCell (.inl (by simp)) _ _
  have t5 : Touch w (W1.setCell ⟨db, 2, none⟩ (.slice none 0 0)) [db, bf] := (t1.mono (fun k hk => .inl (by simp at hk; simp [hk]))).trans t4 (fun k hk => .inl (by simp at hk; simp [hk]))
  have hrest : ∀ k ∈ bs :: (mp.toList ++ fl.flatMap (·.2)), k ∉ [db, bf] := fun k hk hm => by
    simp only [List.mem_cons, List.not_mem_nil, or_false] at hk hm
    rcases hm with rfl | rfl <;> rcases hk with rfl | hk
    · exact n1 rfl
    · exact n3 (List.mem_append_right _ hk)
    · exact n4 rfl
    · exact n6 (List.mem_append_right _ hk)
  have hsub : ∀ k ∈ dl db bs bf (.slice none 0 0) mp fl, k ∈ dl db bs bf vch mp fl := fun k hk => by
    simp only [dl, ob, Value.ownBlock, Option.toList, List.nil_append, List.mem_cons, List.mem_append] at hk ⊢
    rcases hk with r | r | r | r
    · exact .inl r
    · exact .inr (.inl r)
    · exact .inr (.inr (.inl r))
    · exact .inr (.inr (.inr (.inr r)))
  refine ⟨⟨?_, ?_, ?_, ?_, ?_, h.len, fun i F hi => ?_, ?_, fun k hk => h.ge k (hsub k hk)⟩, fun k hk => .inl (hsub k hk), t5.mono (fun k hk => .inl ?_)⟩
  · have e : dcells bs bf (.slice none 0 0) D.named mp = (dcells bs bf vch D mp).setIfInBounds 2 (.slice none 0 0) := by simp [dcells, Dsk.named]
    rw [e]
    exact Box.set (t1.box h.box (by simpa using n2)) 2 _
  · exact h.see.kept t5 (hrest _ (by simp))
  · refine ⟨n + 1, by simpa [Dsk.named] using hn, ?_⟩
    have e : nmap fl D.named.safe = upd (upd (nmap fl D.safe) c.frm none) c.tt (some (blk fl j)) := by
      show nmap fl (D.chg.foldl (fun m c => c.app m) D.safe) = _
      rw [h1]
      exact nmap_app fl c D.safe j hc hf
    rw [e]
    exact hm.kept t4 (by simpa using fun e => n2 e.symm)
  · exact World.ownsRow_nil _ _ _ 3
  · exact h.prt.kept t5 (fun k hk => hrest k (by simp [hk]))
  · obtain ⟨p, hp, hf2⟩ := h.fil i F hi
    exact ⟨p, hp, hf2.kept t5 (fun k hk => hrest k (by
      have : k ∈ fl.flatMap (·.2) := List.mem_flatMap.2 ⟨p, List.mem_of_getElem? hp, hk⟩
      simp [this]))⟩
  · have e : dl db bs bf (.slice none 0 0) mp fl = db :: bs :: bf :: (mp.toList ++ fl.flatMap (·.2)) := by simp [dl, ob, Value.ownBlock]
    rw [e]
    simp only [List.nodup_cons, List.mem_cons, not_or]
    refine ⟨⟨n1, n2, fun hm => n3 (List.mem_append_right _ hm)⟩, ⟨n4, fun hm => n5 (List.mem_append_right _ hm)⟩, fun hm => n6 (List.mem_append_right _ hm), (List.nodup_append.1 n7).2.1⟩
  · simp only [List.mem_cons, List.not_mem_nil, or_false] at hk
    simp only [dl, List.mem_cons]
    rcases hk with r | r
    · exact .inl r
    · exact .inr (.inr (.inl r))

theorem ownsRow_one {w : World} {base : Nat} {e : TypeId} {v a b c : Value} (h : w.ownsRow base e 3 v 1 [a, b, c]) : ∃ g cap, v = .slice (some ⟨g, 0, none⟩) 1 cap ∧ w.cell? ⟨g, 0, none⟩ = some a ∧ w.cell? ⟨g, 1, none⟩ = some b ∧ w.cell? ⟨g, 2, none⟩ = some c := by
  rcases h.2 with ⟨_, h0⟩ | ⟨g, cap, cur, rfl, hb, hg, hnc, hcm, hcs, ht⟩
  · cases h0
  · refine ⟨g, cap, rfl, ?_⟩
    have hi : ∀ i, i < 3 → w.cell? ⟨g, i, none⟩ = [a, b, c][i]? := fun i hi => by
      rw [cell_of_row w g _ cur e (0, 0) hg, ← ht, List.getElem?_take_of_lt (by omega)]
      simp
    exact ⟨hi 0 (by omega), hi 1 (by omega), hi 2 (by omega)⟩

set_option maxRecDepth 20000 in
set_option maxHeartbeats 800000 in
theorem syncNames_one (base db : Nat) (D : Dsk) (bs bf : Nat) (vch : Value) (mp : Option Nat) (fl : Fls) (c : Chg) (j : Nat) (w : World) (h : DiskV w base db D bs bf vch mp fl) (h1 : D.chg = [c]) (hc : c.tt ≠ []) (hf : c.file = some j) (hl1 : c.frm.length ≤ maxLen) (hl2 : c.tt.length ≤ maxLen) (hn : D.room ≤ 100000000000) (hbase : base ≤ w.heap.size) :
    Calls Tryz.prog 89 #[.pointer (some ⟨db, 0, none⟩)] w fun e w' => e = .returned (.tuple #[]) ∧ ∃ v', DiskV w' base db D.named bs bf v' mp fl ∧ (∀ k ∈ dl db bs bf v' mp fl, k ∈ dl db bs bf vch mp fl ∨ w.heap.size ≤ k) ∧ Touch w w' (dl db bs bf vch mp fl) := by
  obtain ⟨n, hnr, hm⟩ := h.saf
  rw [h1] at hnr
  have hch := h.chg
  rw [h1] at hch
  have hcc : [c].flatMap (ccells fl) = [Sv c.frm, Sv c.tt, Pv1 (some (blk fl j))] := by simp [ccells, hf]
  rw [hcc] at hch
  obtain ⟨g, cap, rfl, g0, g1, g2⟩ := ownsRow_one hch
  have hgl : g < w.heap.size := World.block_lt_of_cell? w _ g0
  have c2 : w.cell? ⟨db, 2, none⟩ = some (.slice (some ⟨g, 0, none⟩) 1 cap) := h.box.cell 2
  have hdbl := h.box.lt
  have hbfl := hm.lt
  have hdbf : db ≠ bf := by have := h.nd; simp only [dl, List.nodup_cons, List.mem_cons, not_or] at this; exact this.1.2.1
  obtain ⟨B, hB⟩ : ∃ B, w.heap.size = B := ⟨_, rfl⟩
  obtain ⟨W0, hW0⟩ : ∃ W0 : World, w.alloc (.cells #[Sv c.frm, Sv c.tt, Pv1 (some (blk fl j))] 138) = W0 := ⟨_, rfl⟩
  have b0 : Box W0 B #[Sv c.frm, Sv c.tt, Pv1 (some (blk fl j))] := by rw [← hW0]; exact Box.newAt hB
  have u0 : Up w W0 := by rw [← hW0]; exact Up.alloc _ _
  have ud := Up.drew W0
  have hap := apply_put c.frm c.tt (blk fl j) bf n (nmap fl D.safe) W0.drew ((hm.up u0).up ud) (by omega) hl1 hl2 hc
  have HA : Hid (Calls Tryz.prog 97 #[.agg #[Sv c.frm, Sv c.tt, Pv1 (some (blk fl j))], .map (some bf)] W0.drew fun e w' => e = .returned (.tuple #[]) ∧ MapIs w' bf (n + 1) (upd (upd (nmap fl D.safe) c.frm none) c.tt (some (blk fl j))) ∧ Touch W0.drew w' [bf]) := hap
  have HH : Hid (DiskV w base db D bs bf (.slice (some ⟨g, 0, none⟩) 1 cap) mp fl ∧ D.chg = [c] ∧ c.tt ≠ [] ∧ c.file = some j ∧ n + 1 ≤ D.room ∧ Up w W0.drew ∧ B ≠ bf ∧ db ≠ bf) := ⟨h, h1, hc, hf, by simpa using hnr, u0.trans ud, by omega, hdbf⟩
  have hs : Box W0.drew B #[Sv c.frm, Sv c.tt, Pv1 (some (blk fl j))] ∧ Box W0.drew db (dcells bs bf (.slice (some ⟨g, 0, none⟩) 1 cap) D mp) := ⟨b0.up ud, (h.box.up u0).up ud⟩
  have HS : Hid (Box W0.drew B #[Sv c.frm, Sv c.tt, Pv1 (some (blk fl j))] ∧ Box W0.drew db (dcells bs bf (.slice (some ⟨g, 0, none⟩) 1 cap) D mp)) := hs
  clear h h1 hc hf hl1 hl2 hn hbase hnr hm hch hcc hap b0 u0 ud hdbl hbfl hdbf hgl hs
  go_enter Tryz.func89, Tryz.ntmps89
  go_wp2_with fail
  refine wp_loop_rounds 2 ?_
  rw [rounds_succ]
  go_wp2_with fail
  have sk : ∀ {u u' : World}, (Box u B #[Sv c.frm, Sv c.tt, Pv1 (some (blk fl j))] ∧ Box u db (dcells bs bf (.slice (some ⟨g, 0, none⟩) 1 cap) D mp)) → Touch u u' [bf] → (Box u' B #[Sv c.frm, Sv c.tt, Pv1 (some (blk fl j))] ∧ Box u' db (dcells bs bf (.slice (some ⟨g, 0, none⟩) 1 cap) D mp)) :=
    fun q t => ⟨t.box q.1 (by simpa using HH.out.2.2.2.2.2.2.1), t.box q.2 (by simpa using HH.out.2.2.2.2.2.2.2)⟩
  have hs := HS.out
  refine wp_region_held_drew (S := fun u => Box u B #[Sv c.frm, Sv c.tt, Pv1 (some (blk fl j))] ∧ Box u db (dcells bs bf (.slice (some ⟨g, 0, none⟩) 1 cap) D mp)) (by kernel_rfl) hs (fun hs0 => ?_)
  refine take_to (some 13) (i := 0) (v := .agg #[Sv c.frm, Sv c.tt, Pv1 (some (blk fl j))]) rfl rfl (by kernel_rfl) (by kernel_rfl) (by kernel_rfl) (fun _ _ _ h => h) (Or.inl ⟨by kernel_rfl, by intro u hSu; have q0 := hSu.1.cell 0; have q1 := hSu.1.cell 1; have q2 := hSu.1.cell 2; go_simp⟩) hs ?_
  simp only [Act.put, List.setIfInBounds_toArray, List.set_cons_zero, List.set_cons_succ]
  refine take_to (some 14) (i := 1) (v := .pointer (some ⟨db, 0, none⟩)) rfl rfl (by kernel_rfl) (by kernel_rfl) (by kernel_rfl) (fun _ _ _ h => h) (Or.inl ⟨by kernel_rfl, by intro u hSu; go_simp⟩) hs ?_
  simp only [Act.put, List.setIfInBounds_toArray, List.set_cons_zero, List.set_cons_succ]
  refine take_to (some 15) (i := 2) (v := .pointer (some ⟨db, 0, none⟩)) rfl rfl (by kernel_rfl) (by kernel_rfl) (by kernel_rfl) (fun _ _ _ h => h) (Or.inl ⟨by kernel_rfl, by intro u hSu; go_simp⟩) hs ?_
  simp only [Act.put, List.setIfInBounds_toArray, List.set_cons_zero, List.set_cons_succ]
  refine take_to (some 16) (i := 3) (v := .pointer (some ⟨db, 1, none⟩)) rfl rfl (by kernel_rfl) (by kernel_rfl) (by kernel_rfl) (fun _ _ _ h => h) (Or.inl ⟨by kernel_rfl, by intro u hSu; go_simp⟩) hs ?_
  simp only [Act.put, List.setIfInBounds_toArray, List.set_cons_zero, List.set_cons_succ]
  refine take_to (some 17) (i := 4) (v := .map (some bf)) rfl rfl (by kernel_rfl) (by kernel_rfl) (by kernel_rfl) (fun _ _ _ h => h) (Or.inl ⟨by kernel_rfl, by intro u hSu; have q0 : u.cell? ⟨db, 1, none⟩ = some (.map (some bf)) := hSu.2.cell 1; go_simp⟩) hs ?_
  simp only [Act.put, List.setIfInBounds_toArray, List.set_cons_zero, List.set_cons_succ]
  refine wpAnyH_ready (rs := [5]) (by kernel_rfl) (by simp) ?_
  refine AllReadyH.cons rfl (fun K hK => ?_) AllReadyH.nil
  go_simp
  refine HA.out.mono ?_
  rintro e w1 ⟨rfl, hm1, t1⟩
  have s1 := sk hs t1
  refine hK.out _ _ s1 (fun _ => ?_)
  clear hK K
  refine wpAnyH_done (by kernel_rfl) ?_ _
  have f2 : w1.frozen? ⟨db, 2, none⟩ = false := s1.2.frozen 2
  have c22 : w1.cell? ⟨db, 2, none⟩ = some (.slice (some ⟨g, 0, none⟩) 1 cap) := s1.2.cell 2
  have H1 : Hid (MapIs w1 bf (n + 1) (upd (upd (nmap fl D.safe) c.frm none) c.tt (some (blk fl j))) ∧ Touch W0.drew w1 [bf]) := ⟨hm1, t1⟩
  clear hs hs0 s1 sk hm1 t1 c2 HS HA hW0
  go_wp2
  rw [rounds_succ]
  go_wp2
  go_end0
  obtain ⟨h, h1, hc, hf, hn, hu, -⟩ := HH.out
  exact ⟨rfl, _, h.named h1 hc hf n hn H1.out.1 ((Touch.of_up hu [bf]).trans H1.out.2 (fun k hk => .inl hk)) rfl⟩
end Go.Proofs.YtkfjkfpodkbkaaaGreatDoor
