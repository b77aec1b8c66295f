/- Merged: BkTake. -/
import Derived.Test.YtkfjkfpodkbkaaaDoorMk19
import Derived.Test.YtkfjkfpodkbkaaaDoorMk25
import Derived.Lib.ConvBytes
set_option linter.unusedVariables false
set_option linter.unusedSimpArgs false
namespace Go.Proofs.YtkfjkfpodkbkaaaDoor
open Go Go.RowKit

/-- A reader's text that is whole; that isn't. -/
theorem text_whole {bs : List UInt8} (h : textOk bs) : textA bs .nilIface = (bs.drop 2).take (unle (bs.take 2)) ∧ textL bs .nilIface = bs.drop (2 + unle (bs.take 2)) ∧ ∀ a, textF a bs .nilIface = .nilIface := by
  simp only [textA, textL, textF, if_pos h, true_and, implies_true]
theorem text_not {bs : List UInt8} (h : ¬ textOk bs) : ∀ a, textF a bs .nilIface = E a := by
  simp only [textF, if_neg h, implies_true]

/-- The row that a conversion of a string makes. -/
theorem conv_m (w : World) (bs : List UInt8) (hl : bs.length ≤ 1000000) :
    (convert 9 27 (.string ⟨bs.toArray⟩)).run Tryd.prog w = .ok (.slice (some ⟨w.heap.size, 0, none⟩) bs.length (grownCap w bs.length 0 5)) (Lib.bytesWorld w 5 ⟨bs.toArray⟩) ∧
    OwnM (Lib.bytesWorld w 5 ⟨bs.toArray⟩) w.heap.size (.slice (some ⟨w.heap.size, 0, none⟩) bs.length (grownCap w bs.length 0 5)) bs ∧ Up w (Lib.bytesWorld w 5 ⟨bs.toArray⟩) := by
  have h := Lib.run_convert_string_bytes (P := Tryd.prog) w 9 27 5 ⟨bs.toArray⟩ Tryd.underlying9 Tryd.underlying27 Tryd.underlying5
  have hsz : (⟨bs.toArray⟩ : ByteArray).size = bs.length := by simp [ByteArray.size]
  rw [hsz] at h
  have hge := grownCap_ge w bs.length 0 5
  have hle := grownCap_le_maxLen w bs.length 0 5 (by unfold maxLen; omega)
  have hcs : (Lib.bytesCells w 5 ⟨bs.toArray⟩).size = grownCap w bs.length 0 5 := by
    simp only [Lib.bytesCells, Array.size_append, Array.size_map, Array.size_replicate, hsz, List.size_toArray]
    omega
  have hnew := Lib.bytesWorld_at_new w 5 ⟨bs.toArray⟩
  rw [hcs] at hnew
  refine ⟨h, .inr ⟨_, _, _, _, rfl, Nat.le_refl _, hnew, hge, hle, hcs, ?_, .inr rfl⟩, ⟨?_, ?_, ?_, ?_, fun k hk => Lib.bytesWorld_at_old w _ _ k hk⟩⟩
  · simp [Lib.bytesCells, Bv]
  · unfold Lib.bytesWorld World.freeze; rw [if_neg (by decide)]; rfl
  · unfold Lib.bytesWorld World.freeze; rw [if_neg (by decide)]; rfl
  · unfold Lib.bytesWorld World.freeze; rw [if_neg (by decide)]; rfl
  · rw [Lib.bytesWorld_size]; omega

theorem Rdr.p {base : Nat} {w : World} {r : Nat} {bs : List UInt8} {fv : Value} (h : Rdr base w r bs fv) : RdrP (fun b => b < w.heap.size) w r bs fv := by
  obtain ⟨v, h1, ao, cap, rfl, h2, h3, hx⟩ := h
  refine ⟨_, h1, ao, cap, rfl, h2, h3, fun hne => ?_⟩
  obtain ⟨b, o, e, _, ha⟩ := hx hne
  exact ⟨b, o, e, ha.lt hne, ha⟩
/-- A package variable is no reader. -/
theorem gl_no_rdr {P : Nat → Prop} {g r : Nat} {a : Addr} {w : World} {bs : List UInt8} {fv : Value} (h : Gl w g a) (hr : RdrP P w r bs fv) : g ≠ r := by
  rintro rfl
  obtain ⟨t, h⟩ := h
  obtain ⟨v, h2, _⟩ := hr
  rw [h] at h2
  simp at h2
theorem gl_but {g r : Nat} {a : Addr} {w w' : World} (h : Gl w g a) (hne : g ≠ r) (hb : But r w w') : Gl w' g a := by
  have hl := h.lt
  obtain ⟨t, h⟩ := h
  exact ⟨t, by rw [hb.block g hl (by intro e; exact hne (Option.some.inj e))]; exact h⟩

/-- While records are taken: the reader, what was taken. -/
structure TakeR (w0 wr : World) (r : Nat) (rest : List UInt8) (fv v : Value) (M : List Rec) (vs : List Value) (a : Addr) : Prop where
  rd : RdrP (fun b => b < w0.heap.size) wr r rest fv
  recs : Recs wr w0.heap.size v M vs
  but : But r w0 wr
  gl : Gl w0 2 a
  ne : 2 ≠ r
  lt : r < w0.heap.size
theorem TakeR.glr {w0 wr : World} {r : Nat} {rest : List UInt8} {fv v : Value} {M : List Rec} {vs : List Value} {a : Addr} (h : TakeR w0 wr r rest fv v M vs a) : Gl wr 2 a := gl_but h.gl h.ne h.but
theorem TakeR.read {w0 w w' : World} {r : Nat} {rest rest' : List UInt8} {fv fv' v : Value} {M : List Rec} {vs : List Value} {a : Addr} (h : TakeR w0 w r rest fv v M vs a) (k : RdrP (fun b => b < w0.heap.size) w' r rest' fv') (hb : But r w w') : TakeR w0 w' r rest' fv' v M vs a :=
  ⟨k, h.recs.but hb h.lt, h.but.trans hb, h.gl, h.ne, h.lt⟩
theorem TakeR.up {w0 w w' : World} {r : Nat} {rest : List UInt8} {fv v : Value} {M : List Rec} {vs : List Value} {a : Addr} (h : TakeR w0 w r rest fv v M vs a) (u : Up w w') : TakeR w0 w' r rest fv v M vs a :=
  ⟨h.rd.up u, h.recs.up u, h.but.trans (But.of_up r u), h.gl, h.ne, h.lt⟩
theorem rdr_below {B : Nat} {w w' : World} {r : Nat} {bs : List UInt8} {fv : Value} (h : RdrP (fun b => b < B) w r bs fv) (hb : Below B w w') (hr : r < B) : RdrP (fun b => b < B) w' r bs fv := by
  obtain ⟨v, h1, ao, cap, rfl, h2, h3, hx⟩ := h
  refine ⟨_, by rw [hb.block r hr]; exact h1, ao, cap, rfl, h2, h3, fun hne => ?_⟩
  obtain ⟨b, o, e, hlt, ha⟩ := hx hne
  exact ⟨b, o, e, hlt, fun i hi => by rw [hb.cell hlt]; exact ha i hi⟩
/-- One record more. -/
theorem TakeR.push {w0 w w' : World} {r : Nat} {rest : List UInt8} {v v' u : Value} {M : List Rec} {vs : List Value} {a : Addr} {bs : List UInt8} {t : World} (h : TakeR w0 t r rest .nilIface v M vs a) (ht : Up t w) (ho : OwnM w t.heap.size u bs)
    (hv : OwnV w' w0.heap.size v' (vs ++ [u])) (hg : w.grownBy w' v.ownBlock) : TakeR w0 w' r rest .nilIface v' (M ++ [bs]) (vs ++ [u]) a := by
  have h1 := h.up ht
  have hlo : ∀ k, v.ownBlock = some k → w0.heap.size ≤ k := fun k hk => (World.ownsRow.lt h.recs.row k hk).1
  have hs0 : w0.heap.size ≤ w.heap.size := h1.but.size
  have hbel : Below w0.heap.size w w' := grown_below hg hs0 hlo
  refine ⟨rdr_below h1.rd hbel h.lt, h1.recs.snoc ho h.but.size (fun x hx => (h.recs.mem hx).2.1) hv hg, ?_, h.gl, h.ne, h.lt⟩
  exact ⟨hg.os.trans h1.but.os, hg.tape.trans h1.but.tape, hg.output.trans h1.but.output, Nat.le_trans h1.but.size hg.size, fun k hk hne => (hbel.block k hk).trans (h1.but.block k hk hne)⟩

theorem parseR_step {n : Nat} {bs : List UInt8} (h : textOk bs) (hl : unle (bs.take 2) ≤ 200) : parseR (n + 1) bs = (parseR n (bs.drop (2 + unle (bs.take 2)))).map (((bs.drop 2).take (unle (bs.take 2))) :: ·) := by
  rw [parseR, ← unle_lb, if_pos ⟨h.1, hl, h.2⟩]
theorem parseR_bad {n : Nat} {bs : List UInt8} (h : ¬ (textOk bs ∧ unle (bs.take 2) ≤ 200)) : parseR (n + 1) bs = none := by
  rw [parseR, ← unle_lb, if_neg (fun k => h ⟨⟨k.1, k.2.2⟩, k.2.1⟩)]

/-- What takeRecords answers. -/
def Takes (w0 w' : World) (e : Ending) : Option (List Rec) → Prop
  | none => e = .returned (.tuple #[.slice none 0 0, .bool false])
  | some L => ∃ v vs, e = .returned (.tuple #[v, .bool true]) ∧ Recs w' w0.heap.size v L vs

theorem zeros_cons (c : UInt8) (cs : List UInt8) : (c :: cs = List.replicate (c :: cs).length 0) ↔ c = 0 ∧ cs = List.replicate cs.length 0 := by
  rw [List.length_cons, List.replicate_succ, List.cons.injEq]

set_option maxRecDepth 20000 in
set_option maxHeartbeats 1600000 in
theorem takeRecords_any (r n : Nat) (bs : List UInt8) (w : World) (a : Addr) (h : RdrP (fun b => b < w.heap.size) w r bs .nilIface) (hg : Gl w 2 a) (hl : bs.length ≤ 494) (hn : (n : Int) ≤ 65535) :
    Calls Tryd.prog 27 #[.pointer (some ⟨r, 0, none⟩), .int .i64 (n : Int)] w fun e w' => Takes w w' e (parseR n bs) ∧ But r w w' := by
  obtain ⟨R, hR⟩ : ∃ R, parseR n bs = R := ⟨_, rfl⟩
  rw [hR]
  have H0 : Hid (TakeR w w r bs .nilIface (.slice none 0 0) [] [] a ∧ bs.length ≤ 494 ∧ R = (parseR (n - 0) bs).map ([] ++ ·)) := by
    refine ⟨⟨h, Recs.nil _ _, But.refl _ _, hg, gl_no_rdr hg h, h.lt⟩, hl, ?_⟩
    rw [Nat.sub_zero, hR]; cases R <;> simp
  clear hR h hg hl
  go_enter Tryd.func27, Tryd.ntmps27
  go_wp2
  go_loopg [6, 9] n (fun g vr i wr => ∃ (k : Nat) (rest : List UInt8) (M : List Rec) (vs : List Value), k ≤ n ∧ g = n - k ∧ i = .int .i64 k ∧ Hid (TakeR w wr r rest .nilIface vr M vs a ∧ rest.length ≤ 494 ∧ R = (parseR (n - k) rest).map (M ++ ·)) ∧ Hid (M.length = k))
  case atStart => exact ⟨0, bs, [], [], by omega, rfl, rfl, H0, rfl⟩
  case round =>
    clear H0
    obtain ⟨k, rest, M, vs, hk, rfl, rfl, HT, HM⟩ := hrel
    by_cases hlt : k < n
    · have Hlt : Hid (k < n) := hlt
      have htx := Text_anyP (fun b => b < w.heap.size) r rest .nilIface a wr HT.out.1.rd (.inl rfl) HT.out.1.glr
      obtain ⟨m, hm⟩ : ∃ m, unle (rest.take 2) = m := ⟨_, rfl⟩
      by_cases htk : textOk rest
      · obtain ⟨t1, t2, t3⟩ := text_whole htk
        rw [hm] at t1 t2
        have hlen : ((rest.drop 2).take m).length = m := by
          have := htk.2
          rw [hm] at this
          rw [List.length_take, List.length_drop]; omega
        rw [t1, t2, t3 a] at htx
        by_cases hm200 : m ≤ 200
        · have hpar : R = (parseR (n - (k + 1)) (rest.drop (2 + m))).map ((M ++ [(rest.drop 2).take m]) ++ ·) := by
            have e : n - k = (n - (k + 1)) + 1 := by omega
            rw [HT.out.2.2, e, parseR_step htk (by rw [hm]; exact hm200), hm, Option.map_map]
            congr 1
            funext x
            simp
          obtain ⟨rec, hrec⟩ : ∃ rec, (rest.drop 2).take m = rec := ⟨_, rfl⟩
          rw [hrec] at htx hlen hpar
          obtain ⟨S, hS⟩ : ∃ S : ByteArray, S = ⟨rec.toArray⟩ := ⟨_, rfl⟩
          have hsz : S.size = m := by rw [hS]; simp [ByteArray.size, hlen]
          rw [← hS] at htx
          have Hr : Hid (R = (parseR (n - (k + 1)) (rest.drop (2 + m))).map ((M ++ [rec]) ++ ·) ∧ rec.length = m ∧ S = ⟨rec.toArray⟩ ∧ m ≤ 200 ∧ (rest.drop (2 + m)).length ≤ 494) := ⟨hpar, hlen, hS, hm200, by have := HT.out.2.1; rw [List.length_drop]; omega⟩
          have hm1 : (m : Int) ≤ 200 := by omega
          clear t1 t2 t3 hlen hpar hS htk hrec hm hm200
          go_wp2_with fail
          refine htx.mono ?_
          rintro e w1 ⟨rfl, hr1, hb1⟩
          clear htx
          have T1 := HT.out.1.read hr1 hb1
          go_wp2_with fail
          refine (Err_anyP _ r _ _ _ T1.rd).mono ?_
          rintro e w2 ⟨rfl, rfl⟩
          have hcv := conv_m w2 rec (by rw [Hr.out.2.1]; omega)
          rw [← Hr.out.2.2.1, Hr.out.2.1] at hcv
          obtain ⟨hconv, hom, hup⟩ := hcv
          obtain ⟨w3, hw3⟩ : ∃ w3, Lib.bytesWorld w2 5 S = w3 := ⟨_, rfl⟩
          obtain ⟨gc, hgc⟩ : ∃ gc, grownCap w2 m 0 5 = gc := ⟨_, rfl⟩
          rw [hw3, hgc] at hconv hom
          rw [hw3] at hup
          clear hw3 hgc
          have T3 := T1.up hup
          obtain ⟨av, cv, hvs⟩ := T3.recs.slice
          have hvl : vs.length = k := T3.recs.len.trans HM.out
          go_wp2_with (at_builtin; refine wpList_appV _ rfl (.tmp 21) (.tmp 24) rfl w.heap.size _ vs [.slice (some ⟨w2.heap.size, 0, none⟩) m gc] rfl ⟨w3.heap.size, 0, none⟩ 1 rfl ?h1 ?h2 ?h3 ?h4 ?h5 ?_)
          case h1 =>
            have := T3.recs.row
            rw [hvs] at this
            exact ownsRow_up this (Up.alloc _ _)
          case h2 =>
            intro j u hj
            match j, hj with
            | 0, hj => simp at hj; subst hj; rw [Addr.add_lit, cell_of_row _ _ _ _ _ _ (heap_alloc_new _ _)]; rfl
          case h3 => intro u hu; simp at hu; subst hu; rfl
          case h4 => have := T3.but.size; simp; omega
          case h5 => rw [hvl]; simp; omega
          intro v' w' ho' hg'
          have T5 := T1.push (hup.trans (Up.alloc w3 (.cells #[.slice (some ⟨w2.heap.size, 0, none⟩) m gc] 27))) (hom.up (Up.alloc _ _)) ho' (by rw [hvs]; exact hg')
          have H5 : Hid (TakeR w w' r (rest.drop (2 + m)) .nilIface v' (M ++ [rec]) (vs ++ [.slice (some ⟨w2.heap.size, 0, none⟩) m gc]) a ∧ (rest.drop (2 + m)).length ≤ 494 ∧ R = (parseR (n - (k + 1)) (rest.drop (2 + m))).map ((M ++ [rec]) ++ ·)) := ⟨T5, Hr.out.2.2.2.2, Hr.out.1⟩
          have HM5 : Hid ((M ++ [rec]).length = k + 1) := by show _ = _; rw [List.length_append, HM.out]; rfl
          clear T1 T3 T5 hom hup hconv ho' hg' hvl HT HM Hr hr1 hb1
          go_wp2
          go_roundg (n - (k + 1))
          case measure => have := Hlt.out; omega
          case rel => exact ⟨k + 1, _, _, _, Hlt.out, rfl, by go_num, H5, HM5⟩
        · have hr : R = none := by
            have e : n - k = (n - (k + 1)) + 1 := by omega
            rw [HT.out.2.2, e, parseR_bad (fun h => hm200 (by rw [← hm]; exact h.2))]; rfl
          subst hr
          obtain ⟨S, hS⟩ : ∃ S : ByteArray, S = ⟨((rest.drop 2).take m).toArray⟩ := ⟨_, rfl⟩
          have hsz : S.size = m := by rw [hS]; simp only [ByteArray.size, List.size_toArray, hlen]
          rw [← hS] at htx
          have hm2 : (200 : Int) < (m : Int) := by omega
          clear t1 t2 t3 hlen hS htk hm hm200
          go_wp2_with fail
          refine htx.mono ?_
          rintro e w1 ⟨rfl, hr1, hb1⟩
          clear htx
          have T1 := HT.out.1.read hr1 hb1
          go_wp2_with fail
          refine (Err_anyP _ r _ _ _ T1.rd).mono ?_
          rintro e w2 ⟨rfl, rfl⟩
          have hfin := T1.but
          clear T1 HT HM hr1 hb1
          go_wp2
          go_ret2
          exact ⟨rfl, hfin⟩
      · have hr : R = none := by
          have e : n - k = (n - (k + 1)) + 1 := by omega
          rw [HT.out.2.2, e, parseR_bad (fun h => htk h.1)]; rfl
        subst hr
        rw [text_not htk a] at htx
        obtain ⟨S, hS⟩ : ∃ S : ByteArray, S = ⟨(textA rest .nilIface).toArray⟩ := ⟨_, rfl⟩
        rw [← hS] at htx
        clear hS htk hm
        go_wp2_with fail
        refine htx.mono ?_
        rintro e w1 ⟨rfl, hr1, hb1⟩
        clear htx
        have T1 := HT.out.1.read hr1 hb1
        go_wp2_with fail
        refine (Err_anyP _ r _ _ _ T1.rd).mono ?_
        rintro e w2 ⟨rfl, rfl⟩
        have hfin := T1.but
        clear T1 HT HM hr1 hb1
        go_wp2
        go_ret2
        exact ⟨rfl, hfin⟩
    · obtain rfl : k = n := by omega
      have HZ : Hid (TakeR w wr r rest .nilIface u6 M vs a ∧ rest.length ≤ 494 ∧ R = if rest = List.replicate rest.length 0 then some M else none) := by
        refine ⟨HT.out.1, HT.out.2.1, ?_⟩
        rw [HT.out.2.2, Nat.sub_self, parseR]
        split <;> simp
      clear hlt HT HM hk
      go_wp2
      go_loopg [] rest.length (fun g wr => ∃ rest : List UInt8, g = rest.length ∧ Hid (TakeR w wr r rest .nilIface u6 M vs a ∧ rest.length ≤ 494 ∧ R = if rest = List.replicate rest.length 0 then some M else none))
      case atStart => exact ⟨rest, rfl, HZ⟩
      case round =>
        clear HZ
        obtain ⟨rest, rfl, HZ⟩ := hrel
        cases rest with
        | nil =>
          have hr : R = some M := by rw [HZ.out.2.2]; rfl
          have T1 := HZ.out.1
          have hrec := T1.recs
          have hbut := T1.but
          have hlf := Left_anyP _ r _ _ wr T1.rd
          subst hr
          clear HZ T1
          go_wp2_with fail
          refine hlf.mono ?_
          rintro e w1 ⟨rfl, rfl⟩
          clear hlf
          obtain ⟨av, cv, rfl⟩ := hrec.slice
          go_wp2
          go_ret2
          exact ⟨⟨_, _, rfl, hrec⟩, hbut⟩
        | cons c rest =>
          have T1 := HZ.out.1
          have hz := zeros_cons c rest
          have hlf := Left_anyP _ r _ _ wr T1.rd
          have hu8 := U8_anyP _ r _ _ a wr T1.rd (.inl rfl) T1.glr
          have hw : wholeA 1 (c :: rest) .nilIface = c.toNat ∧ wholeL 1 (c :: rest) .nilIface = rest ∧ ∀ a, wholeF a 1 (c :: rest) .nilIface = .nilIface := by
            refine ⟨?_, ?_, fun a => ?_⟩
            · simp [wholeA, unle]
            · simp [wholeL]
            · simp [wholeF]
          rw [hw.1, hw.2.1, hw.2.2] at hu8
          rw [List.length_cons] at hlf
          have hln : (rest.length : Int) ≤ 494 := by have := HZ.out.2.1; rw [List.length_cons] at this; omega
          have hln0 : (0 : Int) ≤ (rest.length : Int) := by omega
          clear hw
          by_cases hc0 : c = 0
          · subst hc0
            have HZ2 : Hid (rest.length ≤ 494 ∧ R = if rest = List.replicate rest.length 0 then some M else none) := by
              refine ⟨by omega, ?_⟩
              rw [HZ.out.2.2]
              simp only [hz, true_and]
            have HT1 : Hid (TakeR w wr r (0 :: rest) .nilIface u6 M vs a) := T1
            clear HZ T1 hz
            go_wp2_with fail
            refine hlf.mono ?_
            rintro e w1 ⟨rfl, rfl⟩
            clear hlf
            go_wp2_with fail
            refine hu8.mono ?_
            rintro e w2 ⟨rfl, hr2, hb2⟩
            clear hu8
            have HT2 : Hid (TakeR w w2 r rest .nilIface u6 M vs a ∧ rest.length ≤ 494 ∧ R = if rest = List.replicate rest.length 0 then some M else none) := ⟨HT1.out.read hr2 hb2, HZ2.out⟩
            clear HT1 HZ2 hr2 hb2
            go_wp2
            go_roundg rest.length
            case measure => simp
            case rel => exact ⟨rest, rfl, HT2⟩
          · have hr : R = none := by
              rw [HZ.out.2.2, if_neg (fun h => hc0 (hz.1 h).1)]
            subst hr
            have HT1 : Hid (TakeR w wr r (c :: rest) .nilIface u6 M vs a) := T1
            have hne : ((c.toNat : Int) == 0) = false := by
              have : c.toNat ≠ 0 := fun h => hc0 (UInt8.toNat_inj.1 h)
              simp only [beq_eq_false_iff_ne]; omega
            clear HZ T1 hz hc0
            go_wp2_with fail
            refine hlf.mono ?_
            rintro e w1 ⟨rfl, rfl⟩
            clear hlf
            go_wp2_with fail
            refine hu8.mono ?_
            rintro e w2 ⟨rfl, hr2, hb2⟩
            clear hu8
            have hfin := (HT1.out.read hr2 hb2).but
            clear HT1 hr2 hb2
            go_wp2
            go_ret2
            exact ⟨rfl, hfin⟩
end Go.Proofs.YtkfjkfpodkbkaaaDoor
