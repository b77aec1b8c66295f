/- block: what the laws know of memory: the table of half bytes, and five errors of unlike texts. -/
import Derived.Test.YtoljalolfdnghaaDoorBkAwake
import Derived.Test.YtoljalolfdnghaaDoorErrTab
import Derived.Test.YtoljalolfdnghaaDoorLaidT
set_option linter.unusedVariables false
set_option linter.unusedSimpArgs false
namespace Go.Proofs.YtoljalolfdnghaaDoor
open Go Go.RowKit Go.ChangeShapes Go.WideShapes

structure Kn (w : World) (ad : Nat → Addr) : Prop where
  tb : Tb w
  er : ErrSet blkErrs errTxt w ad
theorem Kn.up {w w' : World} {ad : Nat → Addr} (h : Kn w ad) (u : Up w w') : Kn w' ad := ⟨h.tb.up u, h.er.up u⟩
theorem Kn.gl {w : World} {ad : Nat → Addr} (h : Kn w ad) : GlS w ad := fun g hg => (h.er g hg).1
theorem blk_sub : ∀ g ∈ blkErrs, g ∈ allErrs := by decide
theorem Kn.ne {w : World} {ad : Nat → Addr} (h : Kn w ad) (g k : Nat) (hg : g ∈ blkErrs) (hk : k ∈ blkErrs) (hne : g ≠ k) : (binOp .eql 34 (E (ad g)) (E (ad k))).run Tryd.prog w = .ok (.bool false) w :=
  eq_other (h.er g hg).2 (h.er k hk).2 (errTxt_unlike g (blk_sub g hg) k (blk_sub k hk) hne)
theorem Kn.cell {w : World} {ad : Nat → Addr} (h : Kn w ad) (g : Nat) (hg : g ∈ blkErrs) : w.cell? ⟨g, 0, none⟩ = some (E (ad g)) := (h.er g hg).1.cell

theorem kn_of {l : List (String × DataW Unit)} {W : World} (h : laidMetH Tryd.prog l W) (hp : (l.all fun x => x.2.handleName?.isNone) = true)
    (hT : (l.filter fun x => x.1 == "turnstile/crc.halves") = [("turnstile/crc.halves", Rows.laid_turnstile_crc_halves)])
    (hArg : (l.filter fun x => x.1 == "turnstile/api.ErrArg") = [("turnstile/api.ErrArg", .iface "*errors.errorString" (.ptr (.agg [.lit (.string (errTxt 0))])))])
    (hShort : (l.filter fun x => x.1 == "turnstile/api.ErrShort") = [("turnstile/api.ErrShort", .iface "*errors.errorString" (.ptr (.agg [.lit (.string (errTxt 2))])))])
    (hForm : (l.filter fun x => x.1 == "turnstile/api.ErrForm") = [("turnstile/api.ErrForm", .iface "*errors.errorString" (.ptr (.agg [.lit (.string (errTxt 3))])))])
    (hLong : (l.filter fun x => x.1 == "turnstile/api.ErrLong") = [("turnstile/api.ErrLong", .iface "*errors.errorString" (.ptr (.agg [.lit (.string (errTxt 1))])))])
    (hSum : (l.filter fun x => x.1 == "turnstile/api.ErrSum") = [("turnstile/api.ErrSum", .iface "*errors.errorString" (.ptr (.agg [.lit (.string (errTxt 4))])))])
    : ∃ ad, Kn W ad := by
  have ht := h.filter (fun x => x.1 == "turnstile/crc.halves")
  rw [hT] at ht
  obtain ⟨aArg, kArg⟩ := gl_of_laid h hArg hp Tryd.gArg Tryd.gtArg
  obtain ⟨aShort, kShort⟩ := gl_of_laid h hShort hp Tryd.gShort Tryd.gtShort
  obtain ⟨aForm, kForm⟩ := gl_of_laid h hForm hp Tryd.gForm Tryd.gtForm
  obtain ⟨aLong, kLong⟩ := gl_of_laid h hLong hp Tryd.gLong Tryd.gtLong
  obtain ⟨aSum, kSum⟩ := gl_of_laid h hSum hp Tryd.gSum Tryd.gtSum
  refine ⟨fun g =>
    if g = 0 then aArg else
    if g = 2 then aShort else
    if g = 3 then aForm else
    if g = 1 then aLong else
    aSum, table_of_laid ht, fun g hg => ?_⟩
  simp only [blkErrs, List.mem_cons, List.not_mem_nil, or_false] at hg
  rcases hg with rfl | rfl | rfl | rfl | rfl
  · exact kArg
  · exact kLong
  · exact kShort
  · exact kForm
  · exact kSum
theorem kn_all {w : World} {ad : Nat → Addr} (h : ErrSet allErrs errTxt w ad) (t : Tb w) : Kn w ad := ⟨t, fun g hg => h g (blk_sub g hg)⟩

theorem decB_long {b : List UInt8} {e : DecE} (h : decB b = .error e) : (e = .short ↔ b.length < 512) := by
  by_cases h1 : b.length < 512
  · rw [decB, if_pos h1] at h
    cases h
    exact ⟨fun _ => h1, fun _ => rfl⟩
  · refine ⟨fun he => ?_, fun h2 => absurd h2 h1⟩
    subst he
    rw [decB, if_neg h1] at h
    split at h
    · cases h
    · split at h
      · cases h
      · split at h
        · cases h
        · split at h <;> cases h

set_option maxRecDepth 20000 in
set_option maxHeartbeats 1600000 in
theorem BlockForth_any (base : Nat) (v : Value) (b : List UInt8) (w : World) (ad : Nat → Addr) (hk : Kn w ad) (hs : Sl base w v b) (hl : b.length ≤ 140737488351232) :
    Calls Tryd.prog 5 #[v] w fun e w' => e = .returned (.bool true) ∧ Up w w' := by
  have hs0 := hs.mono (Nat.zero_le _)
  obtain ⟨ao, cap, rfl⟩ := hs.slice
  have hlen : (b.length : Int) ≤ 140737488351232 := by omega
  have hln0 : (0 : Int) ≤ (b.length : Int) := by omega
  obtain ⟨N, hN⟩ : ∃ N, b.length = N := ⟨_, rfl⟩
  have HN : Hid (b.length = N) := hN
  have Hs : Hid (Sl 0 w (.slice ao N cap) b) := by rw [← hN]; exact hs0
  rw [hN] at hlen hln0 hs0 ⊢
  clear hs hN hl
  have haw := awake_any w ad hk.tb hk.gl
  go_enter Tryd.func5, Tryd.ntmps5
  go_wp2_with fail
  refine haw.mono ?_
  rintro e w1 ⟨rfl, u1⟩
  clear haw
  have U1 := u1
  go_wp2_with (at_builtin; refine wpList_bytes_any _ rfl (.tmp 13) (.tmp 14) rfl w1.heap.size 0 _ _ [] b rfl rfl (own_built w1 [] (by simp)) (Hs.out.up (U1.trans (Up.alloc _ _))) (by simp) (by have := HN.out; simp; omega) ?_)
  intro v2 w2 o2 g2
  have u2 : Up w1 w2 := grown_up (Up.alloc w1 (.cells #[] 5)) g2 (fun x hx => by cases hx; exact Nat.le_refl _)
  have U2 := U1.trans u2
  have hdec := Decode_any w1.heap.size _ b w2 ad (hk.tb.up U2) o2.sl (hk.gl.up U2)
  obtain ⟨a2, c2, rfl⟩ := o2.sl.slice
  clear o2 g2 u2 U1 u1
  go_wp2_with fail
  refine hdec.mono ?_
  rintro e w3 ⟨hT, u3⟩
  clear hdec
  have U3 := U2.trans u3
  have K3 := hk.up U3
  have cS := K3.cell 2 (by simp)
  cases hd : decB b with
  | error er =>
    rw [hd] at hT
    have hsh := decB_long hd
    rw [HN.out] at hsh
    cases er with
    | short =>
      obtain rfl := hT
      have hlt : (N : Int) < 512 := by have := hsh.1 rfl; omega
      have es := eq_same (ad 2)
      clear hsh hd K3 U2 u3 hk hs0
      go_wp2
      go_ret
      exact ⟨rfl, U3⟩
    | form =>
      obtain rfl := hT
      have hlt : decide ((N : Int) < 512) = false := decide_eq_false fun h => by have := hsh.2 (by omega); cases this
      have es := K3.ne 3 2 (by simp) (by simp) (by decide)
      clear hsh hd K3 U2 u3 hk hs0
      go_wp2
      go_ret
      exact ⟨rfl, U3⟩
    | sum =>
      obtain rfl := hT
      have hlt : decide ((N : Int) < 512) = false := decide_eq_false fun h => by have := hsh.2 (by omega); cases this
      have es := K3.ne 4 2 (by simp) (by simp) (by decide)
      clear hsh hd K3 U2 u3 hk hs0
      go_wp2
      go_ret
      exact ⟨rfl, U3⟩
  | ok x =>
    obtain ⟨f, rs⟩ := x
    rw [hd] at hT
    obtain ⟨v3, vs, rfl, hrec⟩ := hT
    obtain ⟨hfit, hblk⟩ := blk_dec hd
    have henc := Encode_ok f v3 rs w3 K3.tb hrec.rw hfit
    obtain ⟨a3, c3, rfl⟩ := hrec.slice
    rw [hblk] at henc
    clear hd cS hrec
    go_wp2_with fail
    refine henc.mono ?_
    rintro e w4 ⟨v4, rfl, o4, u4⟩
    clear henc
    have U4 := U3.trans u4
    have hsame := same_any 0 w3.heap.size _ v4 b b w4 (Hs.out.up U4) o4.sl (by have := HN.out; omega) (by have := HN.out; omega)
    rw [decide_eq_true rfl] at hsame
    obtain ⟨a4, c4, rfl⟩ := o4.sl.slice
    clear o4 K3 U2 u3 hk hs0 u4 U3
    go_wp2_with fail
    refine hsame.mono ?_
    rintro e w5 ⟨rfl, hw5⟩
    have U5 := U4.trans (drew_up hw5)
    clear hsame hw5 U4
    go_wp2
    go_ret
    exact ⟨rfl, U5⟩
end Go.Proofs.YtoljalolfdnghaaDoor
