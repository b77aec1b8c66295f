/- Merged: DkDisk. -/
import Derived.Test.YtfhcnciimnhnlaaGreatDoorMg19
set_option linter.unusedVariables false
namespace Go.Proofs.YtfhcnciimnhnlaaGreatDoor
open Go Go.RowKit Go.Maps

/-- What is armed: a map from numbers to parts, or none. -/
def PartsIs (w : World) (mp : Option Nat) (p : Int → Option Int) : Prop :=
  match mp with
  | none => ∀ k, p k = none
  | some b => ∃ D n, w.ownsMap Tryz.prog 3 (plainElem (H := Unit) Tryz.prog 3) b n D ∧ ∀ k : Int, D.atKey (.int .i64 k) (.lit (.int .i64 0)) = .lit (.int .i64 ((p k).getD 0)) ∧ Maps.has D (.int .i64 k) = (p k).isSome
theorem intLaw : Keyed Tryz.prog 3 := int_keyed Tryz.underlying3
theorem zeroInt (u : World) : (zeroValue 3).run Tryz.prog u = .ok (.int .i64 0) u := by kernel_rfl
theorem PartsIs.kept {w w' : World} {mp : Option Nat} {p : Int → Option Int} {S : List Nat} (h : PartsIs w mp p) (t : Touch w w' S) (hb : ∀ k, mp = some k → k ∉ S) : PartsIs w' mp p := by
  cases mp with
  | none => exact h
  | some b =>
    obtain ⟨D, n, h, k⟩ := h
    have hl := h.lt
    obtain ⟨es, clock, hx, r⟩ := h
    exact ⟨D, n, ⟨es, clock, (t.block b hl (hb b rfl)).trans hx, r⟩, k⟩
theorem PartsIs.lt {w : World} {b : Nat} {p : Int → Option Int} (h : PartsIs w (some b) p) : b < w.heap.size := by obtain ⟨D, n, h, k⟩ := h; exact h.lt
theorem PartsIs.look {w : World} {mp : Option Nat} {p : Int → Option Int} (h : PartsIs w mp p) (k : Int) (hk : (Lit.int .i64 k).wf = true) :
    (Instr.lookup 95 (.map mp) (.int .i64 k) true).run Tryz.prog w = .ok (.tuple #[.int .i64 ((p k).getD 0), .bool (p k).isSome]) w := by
  cases mp with
  | none =>
    have hp : p k = none := h k
    rw [hp]
    have := Maps.look_nil (w := w) true intLaw Tryz.underlying95 (zeroInt w) (keyOf_int_mk Tryz.underlying3 hk)
    simpa using this
  | some b =>
    obtain ⟨D, n, h, r⟩ := h
    obtain ⟨v, ps, hr, hv⟩ := h.look_ok intLaw Tryz.underlying95 (zeroInt w) (plainElem_int Tryz.underlying3 (by decide)) (keyOf_int_mk Tryz.underlying3 hk)
    rw [(r k).1] at hv
    obtain ⟨c, rfl, hc, _⟩ := plainElem_int_inv Tryz.underlying3 hv
    simp only [Prod.mk.injEq, DataW.lit.injEq, Lit.int.injEq, true_and] at hc
    rw [hr, (r k).2, ← hc.1]

abbrev Fls := List (Nat × List Nat)
/-- The block of the file of this place. -/
def blk (fl : Fls) (i : Nat) : Nat := (fl.getD i (0, [])).1
def nmap (fl : Fls) (m : Nm → Option Nat) : Nm → Option Nat := fun x => (m x).map (blk fl)
def ccells (fl : Fls) (c : Chg) : List Value := [Sv c.frm, Sv c.tt, Pv1 (c.file.map (blk fl))]
abbrev dcells (bs bf : Nat) (vch : Value) (D : Dsk) (mp : Option Nat) : Array Value :=
  #[.map (some bs), .map (some bf), vch, .int .i64 (D.fs.length : Int), .int .i64 (D.ops : Int), .bool D.down, .int .i64 (D.ahead : Int), .map mp, .int .i64 D.cut]
/-- All blocks of a disk. -/
abbrev dl (db bs bf : Nat) (vch : Value) (mp : Option Nat) (fl : Fls) : List Nat := db :: bs :: bf :: (ob vch ++ (mp.toList ++ fl.flatMap (·.2)))

structure DiskV (w : World) (base db : Nat) (D : Dsk) (bs bf : Nat) (vch : Value) (mp : Option Nat) (fl : Fls) : Prop where
  box : Box w db (dcells bs bf vch D mp)
  see : MapIs w bs D.room (nmap fl D.seen)
  saf : ∃ n, n + D.chg.length ≤ D.room ∧ MapIs w bf n (nmap fl D.safe)
  chg : w.ownsRow base 202 3 vch D.chg.length (D.chg.flatMap (ccells fl))
  prt : PartsIs w mp D.parts
  len : fl.length = D.fs.length
  fil : ∀ (i : Nat) (F : Fil), D.fs[i]? = some F → ∃ p, fl[i]? = some p ∧ FileAt w base p.1 ((i : Int) + 1) F p.2
  nd : (dl db bs bf vch mp fl).Nodup
  ge : ∀ k ∈ dl db bs bf vch mp fl, base ≤ k
def DiskAt (w : World) (base db : Nat) (D : Dsk) (L : List Nat) : Prop := ∃ bs bf vch mp fl, DiskV w base db D bs bf vch mp fl ∧ L = dl db bs bf vch mp fl

theorem FileAt.lt {w : World} {base fb : Nat} {age : Int} {F : Fil} {L : List Nat} (h : FileAt w base fb age F L) : ∀ k ∈ L, k < w.heap.size := by
  obtain ⟨_, _, _, _, h, rfl⟩ := h; exact h.lt
theorem FileAt.nd {w : World} {base fb : Nat} {age : Int} {F : Fil} {L : List Nat} (h : FileAt w base fb age F L) : L.Nodup := by
  obtain ⟨_, _, _, _, h, rfl⟩ := h; exact h.nd
theorem FileAt.head {w : World} {base fb : Nat} {age : Int} {F : Fil} {L : List Nat} (h : FileAt w base fb age F L) : fb ∈ L := by
  obtain ⟨_, _, _, _, h, rfl⟩ := h; simp

theorem DiskV.lt {w : World} {base db : Nat} {D : Dsk} {bs bf : Nat} {vch : Value} {mp : Option Nat} {fl : Fls} (h : DiskV w base db D bs bf vch mp fl) : ∀ k ∈ dl db bs bf vch mp fl, k < w.heap.size := by
  intro k hk
  simp only [List.mem_cons, List.mem_append] at hk
  rcases hk with rfl | rfl | rfl | hk | hk | hk
  · exact h.box.lt
  · exact h.see.lt
  · obtain ⟨n, _, q⟩ := h.saf; exact q.lt
  · exact (World.ownsRow.lt h.chg k (mem_ob.1 hk)).2
  · cases mp with
    | none => simp at hk
    | some b => simp at hk; subst hk; exact h.prt.lt
  · obtain ⟨p, hp, hm⟩ := List.mem_flatMap.1 hk
    obtain ⟨i, hi, e⟩ := List.mem_iff_getElem.1 hp
    have hi2 : i < D.fs.length := h.len ▸ hi
    obtain ⟨q, hq, hf⟩ := h.fil i D.fs[i] (List.getElem?_eq_getElem hi2)
    rw [List.getElem?_eq_getElem hi, e] at hq
    cases hq
    exact hf.lt k hm
theorem DiskV.file {w : World} {base db : Nat} {D : Dsk} {bs bf : Nat} {vch : Value} {mp : Option Nat} {fl : Fls} (h : DiskV w base db D bs bf vch mp fl) {i : Nat} {F : Fil} (hi : D.fs[i]? = some F) : ∃ L, fl[i]? = some (blk fl i, L) ∧ FileAt w base (blk fl i) ((i : Int) + 1) F L := by
  obtain ⟨⟨a, L⟩, hp, hf⟩ := h.fil i F hi
  have e : blk fl i = a := by simp [blk, List.getD, hp]
  exact ⟨L, by rw [e]; exact hp, by rw [e]; exact hf⟩

/-- A disk that nothing touches is there. -/
theorem DiskV.kept {w w' : World} {base db : Nat} {D : Dsk} {bs bf : Nat} {vch : Value} {mp : Option Nat} {fl : Fls} {S : List Nat} (h : DiskV w base db D bs bf vch mp fl) (t : Touch w w' S) (hS : ∀ k ∈ dl db bs bf vch mp fl, k ∉ S) : DiskV w' base db D bs bf vch mp fl where
  box := t.box h.box (hS _ (by simp))
  see := h.see.kept t (hS _ (by simp))
  saf := by obtain ⟨n, q, r⟩ := h.saf; exact ⟨n, q, r.kept t (hS _ (by simp))⟩
  chg := Touch.row h.chg t (fun k hk => hS k (by simp [mem_ob.2 hk]))
  prt := h.prt.kept t (fun k hk => hS k (by simp [hk]))
  len := h.len
  fil := fun i F hi => by
    obtain ⟨p, hp, hf⟩ := h.fil i F hi
    exact ⟨p, hp, hf.kept t (fun k hk => hS k (by
      have : k ∈ fl.flatMap (·.2) := List.mem_flatMap.2 ⟨p, List.mem_of_getElem? hp, hk⟩
      simp [this]))⟩
  nd := h.nd
  ge := h.ge

/-- Other numbers in the disk's own struct. -/
theorem DiskV.rebox {w w' : World} {base db : Nat} {D : Dsk} {bs bf : Nat} {vch : Value} {mp : Option Nat} {fl : Fls} {D' : Dsk} (h : DiskV w base db D bs bf vch mp fl) (t : Touch w w' [db]) (hb : Box w' db (dcells bs bf vch D' mp)) (h1 : D'.fs = D.fs) (h2 : D'.seen = D.seen) (h3 : D'.safe = D.safe) (h4 : D'.chg = D.chg) (h5 : D'.parts = D.parts) (h6 : D.room ≤ D'.room) :
    DiskV w' base db D' bs bf vch mp fl := by
  have nd := h.nd
  rw [List.nodup_cons] at nd
  have hne : ∀ k ∈ bs :: bf :: (ob vch ++ (mp.toList ++ fl.flatMap (·.2))), k ∉ [db] := fun k hk hm => by
    simp only [List.mem_singleton] at hm
    subst hm
    exact nd.1 hk
  refine ⟨hb, ?_, ?_, ?_, ?_, ?_, fun i F hi => ?_, h.nd, h.ge⟩
  · rw [h2]; exact (h.see.kept t (hne _ (by simp))).mono h6
  · obtain ⟨n, q, r⟩ := h.saf; rw [h3, h4]; exact ⟨n, by omega, r.kept t (hne _ (by simp))⟩
  · rw [h4]; exact Touch.row h.chg t (fun k hk => hne k (by simp [mem_ob.2 hk]))
  · rw [h5]; exact h.prt.kept t (fun k hk => hne k (by simp [hk]))
  · rw [h1]; exact h.len
  · rw [h1] at hi
    obtain ⟨p, hp, hf⟩ := h.fil i F hi
    exact ⟨p, hp, hf.kept t (fun k hk => hne k (by
      have : k ∈ fl.flatMap (·.2) := List.mem_flatMap.2 ⟨p, List.mem_of_getElem? hp, hk⟩
      simp [this]))⟩

theorem blk_set (fl : Fls) (i : Nat) (L : List Nat) (j : Nat) : blk (fl.set i (blk fl i, L)) j = blk fl j := by
  unfold blk
  simp only [List.getD, List.getElem?_set]
  split
  · rename_i e
    subst e
    split <;> rename_i hl
    · rfl
    · simp [List.getElem?_eq_none (Nat.le_of_not_lt hl)]
  · rfl
theorem nmap_set (fl : Fls) (i : Nat) (L : List Nat) (m : Nm → Option Nat) : nmap (fl.set i (blk fl i, L)) m = nmap fl m := by
  funext x; simp only [nmap]; cases m x <;> simp [blk_set]
theorem ccells_set (fl : Fls) (i : Nat) (L : List Nat) (c : Chg) : ccells (fl.set i (blk fl i, L)) c = ccells fl c := by
  simp only [ccells]; cases c.file <;> simp [blk_set]

theorem flat_split {fl : Fls} {i : Nat} {p : Nat × List Nat} (h : fl[i]? = some p) : fl.flatMap (·.2) = (fl.take i).flatMap (·.2) ++ (p.2 ++ (fl.drop (i + 1)).flatMap (·.2)) := by
  obtain ⟨hi, rfl⟩ := List.getElem?_eq_some_iff.1 h
  conv => lhs; rw [← List.take_append_drop i fl, List.drop_eq_getElem_cons hi]
  rw [List.flatMap_append, List.flatMap_cons]

/-- One of its files is changed, and nothing else. -/
theorem DiskV.at {w w' : World} {base db : Nat} {D : Dsk} {bs bf : Nat} {vch : Value} {mp : Option Nat} {fl : Fls} {i : Nat} {F : Fil} {L L' : List Nat} {f : Fil → Fil} (h : DiskV w base db D bs bf vch mp fl) (hi : D.fs[i]? = some F) (hp : fl[i]? = some (blk fl i, L)) (hf : FileAt w' base (blk fl i) ((i : Int) + 1) (f F) L') (t : Touch w w' L) (hn : ∀ k ∈ L', k ∈ L ∨ w.heap.size ≤ k) (hbase : base ≤ w.heap.size) :
    DiskV w' base db (D.at i f) bs bf vch mp (fl.set i (blk fl i, L')) ∧ (∀ k ∈ dl db bs bf vch mp (fl.set i (blk fl i, L')), k ∈ dl db bs bf vch mp fl ∨ w.heap.size ≤ k) := by
  have hlt := h.lt
  have hs1 := flat_split hp
  have hil : i < fl.length := (List.getElem?_eq_some_iff.1 hp).1
  have hset : (fl.set i (blk fl i, L'))[i]? = some (blk fl i, L') := by rw [List.getElem?_set_self hil]
  have hs2 := flat_split hset
  rw [List.take_set_of_le (Nat.le_refl i), List.drop_set_of_lt (Nat.lt_succ_self i)] at hs2
  have nd := h.nd
  have hA : dl db bs bf vch mp fl = (db :: bs :: bf :: (ob vch ++ (mp.toList ++ (fl.take i).flatMap (·.2)))) ++ L ++ (fl.drop (i + 1)).flatMap (·.2) := by
    simp [dl, hs1]
  have hB : dl db bs bf vch mp (fl.set i (blk fl i, L')) = (db :: bs :: bf :: (ob vch ++ (mp.toList ++ (fl.take i).flatMap (·.2)))) ++ L' ++ (fl.drop (i + 1)).flatMap (·.2) := by
    simp [dl, hs2]
  have nd2 := nd
  rw [hA] at nd2
  have hout : ∀ k ∈ (db :: bs :: bf :: (ob vch ++ (mp.toList ++ (fl.take i).flatMap (·.2)))), k ∉ L := by
    rw [List.nodup_append, List.nodup_append] at nd2
    exact fun k hk hm => nd2.1.2.2 k hk k hm rfl
  have hout2 : ∀ k ∈ (fl.drop (i + 1)).flatMap (·.2), k ∉ L := by
    rw [List.nodup_append, List.nodup_append] at nd2
    exact fun k hk hm => nd2.2.2 k (List.mem_append_right _ hm) k hk rfl
  have hnew : ∀ k ∈ dl db bs bf vch mp (fl.set i (blk fl i, L')), k ∈ dl db bs bf vch mp fl ∨ w.heap.size ≤ k := fun k hk => by
    rw [hB] at hk
    rw [hA]
    rcases List.mem_append.1 hk with hk | hk
    · rcases List.mem_append.1 hk with hk | hk
      · exact .inl (List.mem_append_left _ (List.mem_append_left _ hk))
      · rcases hn k hk with h1 | h1
        · exact .inl (List.mem_append_left _ (List.mem_append_right _ h1))
        · exact .inr h1
    · exact .inl (List.mem_append_right _ hk)
  refine ⟨⟨?_, ?_, ?_, ?_, ?_, ?_, fun j G hj => ?_, ?_, fun k hk => ?_⟩, hnew⟩
  · have e : dcells bs bf vch (D.at i f) mp = dcells bs bf vch D mp := by simp [dcells, Dsk.at]
    rw [e]
    exact t.box h.box (hout _ (by simp))
  · rw [nmap_set]; exact h.see.kept t (hout _ (by simp))
  · obtain ⟨n, q, r⟩ := h.saf
    exact ⟨n, q, by rw [nmap_set]; exact r.kept t (hout _ (by simp))⟩
  · have e : (D.at i f).chg.flatMap (ccells (fl.set i (blk fl i, L'))) = D.chg.flatMap (ccells fl) := by
      show D.chg.flatMap _ = _
      congr 1; funext c; exact ccells_set _ _ _ _
    rw [e]
    exact Touch.row h.chg t (fun k hk => hout k (by simp [mem_ob.2 hk]))
  · exact h.prt.kept t (fun k hk => hout k (by simp [hk]))
  · simp [Dsk.at, h.len]
  · have hj' : (D.fs.modify i f)[j]? = some G := hj
    rw [List.getElem?_modify] at hj'
    by_cases e : i = j
    · subst e
      obtain rfl : f F = G := by
        rw [hi] at hj'
        simpa using hj'
      exact ⟨_, hset, hf⟩
    · replace hj' : D.fs[j]? = some G := by simpa [e] using hj'
      obtain ⟨p, hp2, hf2⟩ := h.fil j G hj'
      refine ⟨p, by rw [List.getElem?_set_ne e]; exact hp2, hf2.kept t (fun k hk => ?_)⟩
      rcases Nat.lt_or_ge j i with hlt2 | hge
      · refine hout k ?_
        have : k ∈ (fl.take i).flatMap (·.2) := List.mem_flatMap.2 ⟨p, List.mem_of_getElem? (by rw [List.getElem?_take_of_lt hlt2]; exact hp2), hk⟩
        simp [this]
      · refine hout2 k ?_
        refine List.mem_flatMap.2 ⟨p, List.mem_of_getElem? (i := j - (i + 1)) (by rw [List.getElem?_drop]; rw [show i + 1 + (j - (i + 1)) = j by omega]; exact hp2), hk⟩
  · rw [hB]
    refine nodup_swap (n := w.heap.size) (by rw [← hA]; exact nd) hf.nd hn (fun k hk => ?_)
    exact hlt k (by rw [hA]; exact hk)
  · rcases hnew k hk with h1 | h1
    · exact h.ge k h1
    · omega

end Go.Proofs.YtfhcnciimnhnlaaGreatDoor
