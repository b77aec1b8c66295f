/- The law PackForm returns true for every bytes and every number, and changes nothing that was there, where the package variables that it reads hold their errors. -/
import Derived.Test.YtdpohhbncpcidaaDoorErrs
import Derived.Deep.QuietTactic
import Derived.BigQuiet
import Derived.Deep.RegionWith
set_option linter.unusedVariables false
namespace Go.Proofs.YtdpohhbncpcidaaDoor
open Go Go.RowKit

theorem numA_nil (aS aF : Addr) (bs : List UInt8) : numA aS aF bs .nilIface = (numR aS aF 0 0 bs).1 := rfl
theorem numL_nil (aS aF : Addr) (bs : List UInt8) : numL aS aF bs .nilIface = bs.drop (numR aS aF 0 0 bs).2.1 := rfl
theorem numF_nil (aS aF : Addr) (bs : List UInt8) : numF aS aF bs .nilIface = (numR aS aF 0 0 bs).2.2 := rfl

theorem numR_cases (aS aF : Addr) (bs : List UInt8) : ∀ i x, (numR aS aF i x bs).2.2 = .nilIface ∨ ((numR aS aF i x bs).1 = 0 ∧ (numR aS aF i x bs).2.1 = 0 ∧ (numR aS aF i x bs).2.2 = E aS) ∨ ((numR aS aF i x bs).1 = 0 ∧ (numR aS aF i x bs).2.1 = 0 ∧ (numR aS aF i x bs).2.2 = E aF) := by
  induction bs with
  | nil => intro i x; exact .inr (.inl ⟨rfl, rfl, rfl⟩)
  | cons c r ih =>
    intro i x
    unfold numR
    split
    · exact .inr (.inr ⟨rfl, rfl, rfl⟩)
    · split
      · exact .inl rfl
      · exact ih _ _

set_option maxHeartbeats 800000 in
/-- PackForm where Number takes n bytes. -/
theorem PackForm_ok (v : Value) (bs : List UInt8) (x : Nat) (w : World) (aS aF aN : Addr) (hs : Sl 0 w v bs) (hl : bs.length ≤ 140737488351232) (h : Errs w aS aF aN) (y n : Nat) (hR : Hid (numR aS aF 0 0 bs = (y, n, .nilIface))) (hn : n ≤ bs.length) (hy : Hid (y < 2 ^ 64)) :
    Calls Tryd.prog 7 #[v, .int .u64 x] w fun e w' => e = .returned (.bool true) ∧ Up w w' := by
  have hs0 := hs
  obtain ⟨ao, cap, rfl, _⟩ := hs
  go_enter Tryd.func7, Tryd.ntmps7
  go_wp2_with fail
  refine (lives_any _ aS aF aN h).mono ?_
  rintro e w1 ⟨rfl, hu1⟩
  go_wp2_with fail
  refine (NewReader_any 0 _ bs _ (hs0.up hu1) hl).mono ?_
  rintro e w2 ⟨r, rfl, hr2, hrd2, hu2⟩
  have he2 := (h.up hu1).up hu2
  go_wp2_with fail
  refine (Number_any _ r bs .nilIface aS aF _ hrd2 (.inl rfl) he2.short he2.form hl).mono ?_
  rintro e w3 ⟨rfl, hrd3, hb3⟩
  have hu13 : Up w1 w3 := Below.trans hu2 (hb3.below hr2 hu2.size)
  have hs3 := (hs0.up hu1).up hu13
  simp only [numA_nil, numL_nil, numF_nil, hR.out] at hrd3 ⊢
  have hu3 : Up w w3 := Below.trans (hu1.trans hu2) (hb3.below (by have := hu1.size; omega) (by have := hu1.size; have := hu2.size; omega))
  go_wp2_with fail
  refine (Left_any _ r _ _ _ hrd3).mono ?_
  rintro e w4 ⟨rfl, rfl⟩
  rw [List.length_drop, show ((bs.length - n : Nat) : Int) = (bs.length : Int) - n from by omega]
  go_wp2_with fail
  refine (Err_any _ r _ _ _ hrd3).mono ?_
  rintro e w5 ⟨rfl, rfl⟩
  go_wp2_with fail
  rw [show ((bs.length : Int) - ((bs.length : Int) - (n : Int))) = (n : Int) from by omega]
  obtain ⟨vc, cc, _, qc', _⟩ := sl_cut hs3 0 n (by omega) hn
  have qc := qc' rfl
  simp only [List.drop_zero, Nat.sub_zero] at cc
  have Ec : Hid _ := numR_take aS aF bs y n hR.out
  rw [Ec.out] at cc
  clear qc' hrd3 hrd2 hs3 hs0 hb3 he2 h hu13 hu1 hu2
  go_region_with (first
    | (go_at_call 25; refine (PutNumber_any _ [] y _ (Sl.nil 0 _) (by simp) hy.out).mono ?_; rintro e w6 ⟨v6, rfl, ho6, hu6⟩; rw [List.nil_append] at ho6; have U6 : Up w5 w6 := (Up.drew w5).trans hu6; have s6 := ho6.sl; have t6 := cc.up U6)
    | (go_at_call 24; refine (alike_eq _ _ _ _ _ _ (by assumption) (by assumption)).mono ?_; rintro e w7 ⟨rfl, rfl⟩))
  all_goals (go_wp2; go_ret; exact ⟨rfl, hu3.trans (by assumption)⟩)

theorem Up.drewN (w : World) (n : Nat) : Up w (w.drewN n) := below_drewN (Up.refl w) n

set_option maxHeartbeats 1600000 in
/-- PackForm where Number takes none: the fault is at a; eS, eF: how it compares with the two. -/
theorem PackForm_bad (v : Value) (bs : List UInt8) (x : Nat) (hx : Hid (x < 2 ^ 64)) (w : World) (aS aF aN : Addr) (hs : Sl 0 w v bs) (hl : bs.length ≤ 140737488351232) (h : Errs w aS aF aN) (a : Addr) (hR : Hid (numR aS aF 0 0 bs = (0, 0, E a)))
    (eS eF : Bool) (hS : ∀ u, Up w u → (binOp .neq 42 (E a) (E aS)).run Tryd.prog u = .ok (.bool eS) u) (hF : ∀ u, Up w u → (binOp .neq 42 (E a) (E aF)).run Tryd.prog u = .ok (.bool eF) u) (hSF : eS = false ∨ eS = true ∧ eF = false) :
    Calls Tryd.prog 7 #[v, .int .u64 x] w fun e w' => e = .returned (.bool true) ∧ Up w w' := by
  have hs0 := hs
  obtain ⟨ao, cap, rfl, _⟩ := hs
  have hin : Hid (∀ m, m = (vn x).length → m ≤ bs.length → decide (bs.take m = vn x) = false) := by
    rintro m rfl hm
    rw [decide_eq_false_iff_not]
    intro he
    have h1 := numR_vn aS aF x (bs.drop (vn x).length) hx.out
    have e : vn x ++ bs.drop (vn x).length = bs := by
      have := List.take_append_drop (vn x).length bs
      rwa [he] at this
    rw [e, hR.out] at h1
    simp at h1
  go_enter Tryd.func7, Tryd.ntmps7
  go_wp2_with fail
  refine (lives_any _ aS aF aN h).mono ?_
  rintro e w1 ⟨rfl, hu1⟩
  go_wp2_with fail
  refine (NewReader_any 0 _ bs _ (hs0.up hu1) hl).mono ?_
  rintro e w2 ⟨r, rfl, hr2, hrd2, hu2⟩
  have he2 := (h.up hu1).up hu2
  go_wp2_with fail
  refine (Number_any _ r bs .nilIface aS aF _ hrd2 (.inl rfl) he2.short he2.form hl).mono ?_
  rintro e w3 ⟨rfl, hrd3, hb3⟩
  have hu13 : Up w1 w3 := Below.trans hu2 (hb3.below hr2 hu2.size)
  have hs3 := (hs0.up hu1).up hu13
  simp only [numA_nil, numL_nil, numF_nil, hR.out] at hrd3 ⊢
  have hu3 : Up w w3 := Below.trans (hu1.trans hu2) (hb3.below (by have := hu1.size; omega) (by have := hu1.size; have := hu2.size; omega))
  have he3 := h.up hu3
  have cS := he3.short.cell
  have cF := he3.form.cell
  have nS : ∀ n, (binOp .neq 42 (E a) (E aS)).run Tryd.prog (w3.drewN n) = .ok (.bool eS) (w3.drewN n) := fun n => hS _ (hu3.trans (Up.drewN _ n))
  have nF : ∀ n, (binOp .neq 42 (E a) (E aF)).run Tryd.prog (w3.drewN n) = .ok (.bool eF) (w3.drewN n) := fun n => hF _ (hu3.trans (Up.drewN _ n))
  have hq : ∀ n, Rdr w1.heap.size (w3.drewN n) r (bs.drop 0) (E a) := fun n => hrd3.up (Up.drewN _ n)
  clear hS hF he2 hrd2 hb3 hu2 hr2 he3 h
  go_wp2_with fail
  refine (Left_any _ r _ _ _ hrd3).mono ?_
  rintro e w4 ⟨rfl, rfl⟩
  simp only [List.drop_zero]
  go_wp2_with fail
  refine (Err_any _ r _ _ _ hrd3).mono ?_
  rintro e w5 ⟨rfl, rfl⟩
  have hfin : Hid (Up w w5) := hu3
  rcases hSF with rfl | ⟨rfl, rfl⟩
  all_goals
    go_wp2_with fail
    go_quiet ((go_at_call 18; exact Calls.quiet_of_same (Err_any _ r _ _ _ (hq _))))
    go_wp2_with fail
    refine (PutNumber_any _ [] x _ (Sl.nil 0 _) (by simp) hx.out).mono ?_
    rintro e w6 ⟨v6, rfl, ho6, hu6⟩
    rw [List.nil_append] at ho6
    have U6 := hu3.trans ((Up.drewN _ _).trans hu6)
    have s6 := ho6.sl
    have s6' := s6
    have t6 := hs3.up ((Up.drewN _ _).trans hu6)
    obtain ⟨m, hm⟩ : ∃ m, m = (vn x).length := ⟨_, rfl⟩
    obtain ⟨ao6, cap6, rfl, _⟩ := s6
    rw [← hm] at s6' ⊢
    have Hm : Hid (m = (vn x).length) := hm
    clear hm hq nS nF cS cF hrd3 hs3 hs0 ho6 hu3 hu13 hu1 hu6
    by_cases hlt : bs.length < m
    · go_wp2
      go_ret
      exact ⟨rfl, U6⟩
    · obtain ⟨vc, cc, _, qc', _⟩ := sl_cut t6 0 m (by omega) (by omega)
      have qc := qc' rfl
      simp only [List.drop_zero, Nat.sub_zero] at cc
      have hd := hin.out m Hm.out (by omega)
      have Hd : Hid _ := hd
      clear qc' hd t6
      go_wp2_with fail
      refine (alike_any _ _ _ _ _ _ _ cc s6').mono ?_
      rintro e w7 ⟨rfl, rfl⟩
      rw [Hd.out]
      go_wp2
      go_ret
      exact ⟨rfl, U6⟩

theorem PackForm_any (v : Value) (bs : List UInt8) (x : Nat) (hx : x < 2 ^ 64) (w : World) (S : List Nat) (txt : Nat → List UInt8) (ad : Nat → Addr) (hs : Sl 0 w v bs) (hl : bs.length ≤ 140737488351232) (h : ErrSet S txt w ad)
    (h1 : 0 ∈ S) (h2 : 1 ∈ S) (h3 : 2 ∈ S) (hne : txt 0 ≠ txt 1) :
    Calls Tryd.prog 7 #[v, .int .u64 x] w fun e w' => e = .returned (.bool true) ∧ Up w w' := by
  have he := h.errs h1 h2 h3
  have hok := numR_ok (ad 0) (ad 1) bs 0 0 (by omega) (by simp)
  have hcase := numR_cases (ad 0) (ad 1) bs 0 0
  generalize hR : numR (ad 0) (ad 1) 0 0 bs = R at hok hcase
  obtain ⟨y, n, f⟩ := R
  simp only at hok hcase
  rcases hcase with rfl | ⟨rfl, rfl, rfl⟩ | ⟨rfl, rfl, rfl⟩
  · rcases hok.2 with hk | hk
    · exact PackForm_ok v bs x w _ _ _ hs hl he y n hR (by have := hk.2.2; omega) hok.1
    · obtain ⟨a, ha⟩ := hk.2.2; cases ha
  · exact PackForm_bad v bs x hx w _ _ _ hs hl he _ hR false true (fun u _ => neq_same _ u) (fun u hu => neq_other ((h _ h1).2.up hu) ((h _ h2).2.up hu) hne) (.inl rfl)
  · exact PackForm_bad v bs x hx w _ _ _ hs hl he _ hR true false (fun u hu => neq_other ((h _ h2).2.up hu) ((h _ h1).2.up hu) hne.symm) (fun u _ => neq_same _ u) (.inr ⟨rfl, rfl⟩)
end Go.Proofs.YtdpohhbncpcidaaDoor
