/- table: the call that keeps a tree of ints balanced. Laid by genTree.py out of tree3.src. Own work. -/
import Derived.Test.YtldmiieepikjnaaTbUI
set_option linter.unusedVariables false
set_option linter.unusedSimpArgs false
namespace Go.Proofs.Ytldmiieepikjnaa
open Go Go.RowKit

/-- over and the two turns, in whatever world behind w. -/
theorem kOI {p : Nat} {k : ByteArray} {v : Int} {l r : Tr Int} {w w' : World} (hp : PI w p k v) (u : Up w w') (hl : TI w' l) (hr : TI w' r) (hb : l.els.length + r.els.length ≤ 2305843009213693952) :
    Calls Try.prog 63 #[.pointer (some ⟨p, 0, none⟩), .pointer l.ptr, .pointer r.ptr] w' fun e w'' => ∃ m, e = .returned (.pointer (some ⟨m, 0, none⟩)) ∧ TI w'' (.node m p k v l r) ∧ Up w w'' :=
  (overI_any p k v l r w' ((u.block p (Array.getElem?_eq_some_iff.1 hp).1).trans hp) hl hr (by omega)).mono fun e w'' ⟨m, he, ht, hu⟩ => ⟨m, he, ht, u.trans hu⟩
theorem kLI {b p b2 p2 : Nat} {k k2 : ByteArray} {v v2 : Int} {A B C : Tr Int} {w w' : World} (u : Up w w') (h : TI w' (.node b p k v A (.node b2 p2 k2 v2 B C))) (hb : (Tr.node b p k v A (.node b2 p2 k2 v2 B C)).els.length ≤ 2305843009213693952) :
    Calls Try.prog 78 #[.pointer (some ⟨b, 0, none⟩)] w' (RI w (Tr.node b p k v A (.node b2 p2 k2 v2 B C)).els) :=
  (turnLI_any b p b2 p2 k k2 v v2 A B C w' h (by simp only [Tr.els, List.length_append, List.length_cons] at hb; omega)).mono fun e w'' ⟨n, q, k0, v0, l0, r0, he, ht, hx, hu⟩ => ⟨n, q, k0, v0, l0, r0, he, ht, hx, u.trans hu⟩
theorem kRI {b p b2 p2 : Nat} {k k2 : ByteArray} {v v2 : Int} {A B C : Tr Int} {w w' : World} (u : Up w w') (h : TI w' (.node b p k v (.node b2 p2 k2 v2 A B) C)) (hb : (Tr.node b p k v (.node b2 p2 k2 v2 A B) C).els.length ≤ 2305843009213693952) :
    Calls Try.prog 79 #[.pointer (some ⟨b, 0, none⟩)] w' (RI w (Tr.node b p k v (.node b2 p2 k2 v2 A B) C).els) :=
  (turnRI_any b p b2 p2 k k2 v v2 A B C w' h (by simp only [Tr.els, List.length_append, List.length_cons] at hb; omega)).mono fun e w'' ⟨n, q, k0, v0, l0, r0, he, ht, hx, hu⟩ => ⟨n, q, k0, v0, l0, r0, he, ht, hx, u.trans hu⟩
theorem node_of_ht {t : Tr Int} {m : Nat} (h : m < t.ht) : ∃ n p k v l r, t = .node n p k v l r := by
  cases t with
  | nil => simp [Tr.ht] at h
  | node n p k v l r => exact ⟨_, _, _, _, _, _, rfl⟩

set_option maxHeartbeats 4000000 in
theorem balLI (p : Nat) (k : ByteArray) (v : Int) (l r : Tr Int) (w : World) (hp : PI w p k v) (hl : TI w l) (hr : TI w r) (hb : l.els.length + r.els.length ≤ 1152921504606846976) (hc : r.ht + 1 < l.ht) :
    Calls Try.prog 64 #[.pointer (some ⟨p, 0, none⟩), .pointer l.ptr, .pointer r.ptr] w (RI w (l.els ++ (k, v) :: r.els)) := by
  have q1 := highI_any l w hl
  have q2 := highI_any r w hr
  have b1 := l.ht_le
  have b2 := r.ht_le
  obtain ⟨lb, lp, lk, lv, ll, lr, rfl⟩ := node_of_ht hc
  obtain ⟨_, c1, c2, _, _⟩ := hl.cells
  have q3 : ∀ n, Calls Try.prog 77 #[.pointer ll.ptr] (w.drewN n) fun e w' => e = .returned (.int .i64 (ll.ht : Int)) ∧ w' = w.drewN n := fun n => highI_any ll _ (IsT.up hl.2.2.1 (up_drewN w n))
  have q4 : ∀ n, Calls Try.prog 77 #[.pointer lr.ptr] (w.drewN n) fun e w' => e = .returned (.int .i64 (lr.ht : Int)) ∧ w' = w.drewN n := fun n => highI_any lr _ (IsT.up hl.2.2.2 (up_drewN w n))
  have hgt : ((r.ht : Int) + 1) < ((Tr.node lb lp lk lv ll lr).ht : Int) := by omega
  have hRb : (r.ht : Int) ≤ 1152921504606846976 := by omega
  have HH : Hid (PI w p k v ∧ TI w (.node lb lp lk lv ll lr) ∧ TI w r ∧ (Tr.node lb lp lk lv ll lr).els.length + r.els.length ≤ 1152921504606846976) := ⟨hp, hl, hr, hb⟩
  clear hp hl hr hb hc b1 b2
  generalize (Tr.node lb lp lk lv ll lr).ht = hL at q1 hgt
  generalize hhR : r.ht = hR at q2 hgt hRb
  clear hhR
  change Calls _ _ #[_, .pointer (some ⟨lb, 0, none⟩), _] _ _
  change Calls _ _ #[.pointer (some ⟨lb, 0, none⟩)] _ _ at q1
  go_enter Try.func64, Try.ntmps64
  go_wp2_with (first
    | (go_at_call_of 77 [Value.pointer (some ⟨lb, 0, none⟩)]; refine q1.mono ?_; rintro e w1 ⟨rfl, hw⟩; obtain rfl : w = w1 := hw.symm)
    | (go_at_call_of 77 [Value.pointer r.ptr]; refine q2.mono ?_; rintro e w1 ⟨rfl, hw⟩; obtain rfl : w = w1 := hw.symm))
  clear q1 q2
  by_cases hA : ll.ht < lr.ht
  · have hA' : (ll.ht : Int) < (lr.ht : Int) := by omega
    obtain ⟨b2, p2, k2, v2, B, C, rfl⟩ := node_of_ht hA
    clear hA
    generalize (Tr.node b2 p2 k2 v2 B C).ht = h2 at q4 hA'
    generalize ll.ht = h1 at q3 hA'
    go_quiet (first
      | (go_at_call_of 77 [Value.pointer ll.ptr]; exact Calls.quiet_of_same (q3 _))
      | (go_at_call 77; exact Calls.quiet_of_same (q4 _)))
    clear q3 q4 c1 c2
    have u0 := up_drewN w nq
    generalize w.drewN nq = w0 at u0 ⊢
    go_wp2_with fail
    obtain ⟨hp, hl, hr, hb⟩ := HH.out
    refine (kLI u0 (IsT.up hl u0) (by omega)).mono ?_
    rintro e w1 ⟨n1, q1, k1, v1, l1, r1, rfl, t1, x1, u1⟩
    go_wp2_with fail
    refine (kOI (l := .node n1 q1 k1 v1 l1 r1) hp u1 t1 (IsT.up hr u1) (by rw [x1]; omega)).mono ?_
    rintro e w2 ⟨m, rfl, t2, u2⟩
    go_wp2_with fail
    refine (kRI u2 t2 (by rw [Tr.els, x1]; simp only [List.length_append, List.length_cons]; omega)).mono ?_
    rintro e w3 ⟨n3, q3, k3, v3, l3, r3, rfl, t3, x3, u3⟩
    go_wp2
    go_ret
    exact ⟨_, _, _, _, _, _, rfl, t3, by rw [x3, Tr.els, x1], u3⟩
  · have hA' : ¬ ((ll.ht : Int) < (lr.ht : Int)) := by omega
    clear hA
    generalize hh2 : lr.ht = h2 at q4 hA'
    generalize hh1 : ll.ht = h1 at q3 hA'
    clear hh1 hh2
    go_quiet (first
      | (go_at_call_of 77 [Value.pointer ll.ptr]; exact Calls.quiet_of_same (q3 _))
      | (go_at_call 77; exact Calls.quiet_of_same (q4 _)))
    clear q3 q4 c1 c2
    have u0 := up_drewN w nq
    generalize w.drewN nq = w0 at u0 ⊢
    go_wp2_with fail
    obtain ⟨hp, hl, hr, hb⟩ := HH.out
    refine (kOI (l := .node lb lp lk lv ll lr) hp u0 (IsT.up hl u0) (IsT.up hr u0) (by omega)).mono ?_
    rintro e w2 ⟨m, rfl, t2, u2⟩
    go_wp2_with fail
    refine (kRI u2 t2 (by rw [Tr.els]; simp only [List.length_append, List.length_cons]; omega)).mono ?_
    rintro e w3 ⟨n3, q3, k3, v3, l3, r3, rfl, t3, x3, u3⟩
    go_wp2
    go_ret
    exact ⟨_, _, _, _, _, _, rfl, t3, by rw [x3, Tr.els], u3⟩
set_option maxHeartbeats 4000000 in
theorem balRI (p : Nat) (k : ByteArray) (v : Int) (l r : Tr Int) (w : World) (hp : PI w p k v) (hl : TI w l) (hr : TI w r) (hb : l.els.length + r.els.length ≤ 1152921504606846976) (hc : l.ht + 1 < r.ht) :
    Calls Try.prog 64 #[.pointer (some ⟨p, 0, none⟩), .pointer l.ptr, .pointer r.ptr] w (RI w (l.els ++ (k, v) :: r.els)) := by
  have q1 := highI_any l w hl
  have q2 := highI_any r w hr
  have b1 := l.ht_le
  have b2 := r.ht_le
  obtain ⟨lb, lp, lk, lv, ll, lr, rfl⟩ := node_of_ht hc
  obtain ⟨_, c1, c2, _, _⟩ := hr.cells
  have q3 : ∀ n, Calls Try.prog 77 #[.pointer ll.ptr] (w.drewN n) fun e w' => e = .returned (.int .i64 (ll.ht : Int)) ∧ w' = w.drewN n := fun n => highI_any ll _ (IsT.up hr.2.2.1 (up_drewN w n))
  have q4 : ∀ n, Calls Try.prog 77 #[.pointer lr.ptr] (w.drewN n) fun e w' => e = .returned (.int .i64 (lr.ht : Int)) ∧ w' = w.drewN n := fun n => highI_any lr _ (IsT.up hr.2.2.2 (up_drewN w n))
  have hgt : ((l.ht : Int) + 1) < ((Tr.node lb lp lk lv ll lr).ht : Int) := by omega
  have hng : ¬ (((Tr.node lb lp lk lv ll lr).ht : Int) + 1 < (l.ht : Int)) := by omega
  have hRb : (l.ht : Int) ≤ 1152921504606846976 := by omega
  have hRc : ((Tr.node lb lp lk lv ll lr).ht : Int) ≤ 1152921504606846976 := by omega
  have HH : Hid (PI w p k v ∧ TI w l ∧ TI w (.node lb lp lk lv ll lr) ∧ l.els.length + (Tr.node lb lp lk lv ll lr).els.length ≤ 1152921504606846976) := ⟨hp, hl, hr, hb⟩
  clear hp hl hr hb hc b1 b2
  generalize (Tr.node lb lp lk lv ll lr).ht = hR at q2 hgt hng hRc
  generalize hhL : l.ht = hL at q1 hgt hng hRb
  clear hhL
  change Calls _ _ #[_, _, .pointer (some ⟨lb, 0, none⟩)] _ _
  change Calls _ _ #[.pointer (some ⟨lb, 0, none⟩)] _ _ at q2
  go_enter Try.func64, Try.ntmps64
  go_wp2_with (first
    | (go_at_call_of 77 [Value.pointer (some ⟨lb, 0, none⟩)]; refine q2.mono ?_; rintro e w1 ⟨rfl, hw⟩; obtain rfl : w = w1 := hw.symm)
    | (go_at_call_of 77 [Value.pointer l.ptr]; refine q1.mono ?_; rintro e w1 ⟨rfl, hw⟩; obtain rfl : w = w1 := hw.symm))
  clear q1 q2
  by_cases hA : lr.ht < ll.ht
  · have hA' : (lr.ht : Int) < (ll.ht : Int) := by omega
    obtain ⟨b2, p2, k2, v2, B, C, rfl⟩ := node_of_ht hA
    clear hA
    generalize (Tr.node b2 p2 k2 v2 B C).ht = h2 at q3 hA'
    generalize lr.ht = h1 at q4 hA'
    go_quiet (first
      | (go_at_call_of 77 [Value.pointer lr.ptr]; exact Calls.quiet_of_same (q4 _))
      | (go_at_call 77; exact Calls.quiet_of_same (q3 _)))
    clear q3 q4 c1 c2
    have u0 := up_drewN w nq
    generalize w.drewN nq = w0 at u0 ⊢
    go_wp2_with fail
    obtain ⟨hp, hl, hr, hb⟩ := HH.out
    refine (kRI u0 (IsT.up hr u0) (by omega)).mono ?_
    rintro e w1 ⟨n1, q1, k1, v1, l1, r1, rfl, t1, x1, u1⟩
    go_wp2_with fail
    refine (kOI (r := .node n1 q1 k1 v1 l1 r1) hp u1 (IsT.up hl u1) t1 (by rw [x1]; omega)).mono ?_
    rintro e w2 ⟨m, rfl, t2, u2⟩
    go_wp2_with fail
    refine (kLI u2 t2 (by rw [Tr.els, x1]; simp only [List.length_append, List.length_cons]; omega)).mono ?_
    rintro e w3 ⟨n3, q3, k3, v3, l3, r3, rfl, t3, x3, u3⟩
    go_wp2
    go_ret
    exact ⟨_, _, _, _, _, _, rfl, t3, by rw [x3, Tr.els, x1], u3⟩
  · have hA' : ¬ ((lr.ht : Int) < (ll.ht : Int)) := by omega
    clear hA
    generalize hh2 : lr.ht = h2 at q4 hA'
    generalize hh1 : ll.ht = h1 at q3 hA'
    clear hh1 hh2
    go_quiet (first
      | (go_at_call_of 77 [Value.pointer lr.ptr]; exact Calls.quiet_of_same (q4 _))
      | (go_at_call 77; exact Calls.quiet_of_same (q3 _)))
    clear q3 q4 c1 c2
    have u0 := up_drewN w nq
    generalize w.drewN nq = w0 at u0 ⊢
    go_wp2_with fail
    obtain ⟨hp, hl, hr, hb⟩ := HH.out
    refine (kOI (r := .node lb lp lk lv ll lr) hp u0 (IsT.up hl u0) (IsT.up hr u0) (by omega)).mono ?_
    rintro e w2 ⟨m, rfl, t2, u2⟩
    go_wp2_with fail
    refine (kLI u2 t2 (by rw [Tr.els]; simp only [List.length_append, List.length_cons]; omega)).mono ?_
    rintro e w3 ⟨n3, q3, k3, v3, l3, r3, rfl, t3, x3, u3⟩
    go_wp2
    go_ret
    exact ⟨_, _, _, _, _, _, rfl, t3, by rw [x3, Tr.els], u3⟩

set_option maxHeartbeats 4000000 in
theorem balNI (p : Nat) (k : ByteArray) (v : Int) (l r : Tr Int) (w : World) (hp : PI w p k v) (hl : TI w l) (hr : TI w r) (hb : l.els.length + r.els.length ≤ 1152921504606846976) (hc : ¬ l.ht + 1 < r.ht) (hd : ¬ r.ht + 1 < l.ht) :
    Calls Try.prog 64 #[.pointer (some ⟨p, 0, none⟩), .pointer l.ptr, .pointer r.ptr] w (RI w (l.els ++ (k, v) :: r.els)) := by
  have q1 := highI_any l w hl
  have q2 := highI_any r w hr
  have q3 := kOI hp (Up.refl w) hl hr (by omega)
  have b1 := l.ht_le
  have b2 := r.ht_le
  have hgt : ¬ ((l.ht : Int) + 1) < (r.ht : Int) := by omega
  have hng : ¬ ((r.ht : Int) + 1 < (l.ht : Int)) := by omega
  have hRb : (l.ht : Int) ≤ 1152921504606846976 := by omega
  have hRc : (r.ht : Int) ≤ 1152921504606846976 := by omega
  clear hp hl hr hb hc b1 b2 hd
  generalize hhR : r.ht = hR at q2 hgt hng hRc
  generalize hhL : l.ht = hL at q1 hgt hng hRb
  clear hhL hhR
  go_enter Try.func64, Try.ntmps64
  go_wp2_with (first
    | (go_at_call_of 77 [Value.pointer r.ptr]; refine q2.mono ?_; rintro e w1 ⟨rfl, hw⟩; obtain rfl : w = w1 := hw.symm)
    | (go_at_call_of 77 [Value.pointer l.ptr]; refine q1.mono ?_; rintro e w1 ⟨rfl, hw⟩; obtain rfl : w = w1 := hw.symm)
    | (go_at_call 63; refine q3.mono ?_; clear q3; rintro e w2 ⟨m, rfl, t2, u2⟩))
  go_ret
  exact ⟨_, _, _, _, _, _, rfl, t2, rfl, u2⟩
/-- balanced: a node over whatever two trees. -/
theorem balI_any (p : Nat) (k : ByteArray) (v : Int) (l r : Tr Int) (w : World) (hp : PI w p k v) (hl : TI w l) (hr : TI w r) (hb : l.els.length + r.els.length ≤ 1152921504606846976) :
    Calls Try.prog 64 #[.pointer (some ⟨p, 0, none⟩), .pointer l.ptr, .pointer r.ptr] w (RI w (l.els ++ (k, v) :: r.els)) := by
  by_cases h1 : r.ht + 1 < l.ht
  · exact balLI p k v l r w hp hl hr hb h1
  · by_cases h2 : l.ht + 1 < r.ht
    · exact balRI p k v l r w hp hl hr hb h2
    · exact balNI p k v l r w hp hl hr hb h2 h1
end Go.Proofs.Ytldmiieepikjnaa
