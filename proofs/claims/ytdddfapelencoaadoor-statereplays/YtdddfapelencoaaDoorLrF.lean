/- Merged: StSame, StReplays. -/
import Derived.Test.YtdddfapelencoaaDoorLrE
import Derived.Test.YtdddfapelencoaaDoorLkK
import Derived.Test.YtdddfapelencoaaDoorLkJ
import Derived.Test.YtdddfapelencoaaDoorLkE
import Derived.Test.YtdddfapelencoaaDoorLkM
set_option linter.unusedVariables false
set_option linter.unusedSimpArgs false
namespace Go.Proofs.YtdddfapelencoaaDoor
open Go Go.RowKit

def resF : Except Flw StV → StV
  | .ok s => s
  | .error _ => ⟨0, 0, []⟩
def errF (ad : Nat → Addr) : Except Flw StV → Value
  | .ok _ => .nilIface
  | .error x => E (ad (gOf x))
def numR : Except Flw StV → Nat
  | .ok _ => 0
  | .error x => numF x
theorem prog_res {ad : Nat → Addr} {w w' : World} {o : Except Flw StV} {e : Ending} (h : RunPost ad w o e w') : (∃ vk, e = .returned (.tuple #[.agg #[V (resF o).lsn, V (resF o).floor, vk], errF ad o]) ∧ SlE w' vk (resF o).keys) ∧ Up w w' := by
  cases o with
  | ok s =>
    obtain ⟨v', rfl, hw, u⟩ := h
    exact ⟨⟨v', rfl, hw.sl⟩, u⟩
  | error x =>
    obtain ⟨rfl, u⟩ := h
    exact ⟨⟨_, rfl, SlE.nil w'⟩, u⟩
theorem ref_res {base : Nat} {w' : World} {o : Except Flw StV} {e : Ending} (h : AP base w' e o) : ∃ vk, e = .returned (.tuple #[.agg #[V (resF o).lsn, V (resF o).floor, vk], .int .i64 (numR o : Nat)]) ∧ SlE w' vk (resF o).keys := by
  cases o with
  | ok s =>
    obtain ⟨v', rfl, hw⟩ := h
    exact ⟨v', rfl, hw.sl⟩
  | error x => exact ⟨_, h, SlE.nil w'⟩
theorem prog_own {ad : Nat → Addr} {w w' : World} {o : Except Flw StV} {e : Ending} (h : RunPost ad w o e w') : (∃ vk, e = .returned (.tuple #[.agg #[V (resF o).lsn, V (resF o).floor, vk], errF ad o]) ∧ OwnE w' w.heap.size vk (resF o).keys) ∧ Up w w' := by
  cases o with
  | ok s =>
    obtain ⟨v', rfl, hw, u⟩ := h
    exact ⟨⟨v', rfl, hw⟩, u⟩
  | error x =>
    obtain ⟨rfl, u⟩ := h
    exact ⟨⟨_, rfl, OwnE.nil w' _⟩, u⟩
theorem ref_own {base : Nat} {w' : World} {o : Except Flw StV} {e : Ending} (h : AP base w' e o) : ∃ vk, e = .returned (.tuple #[.agg #[V (resF o).lsn, V (resF o).floor, vk], .int .i64 (numR o : Nat)]) ∧ OwnE w' base vk (resF o).keys := by
  cases o with
  | ok s =>
    obtain ⟨v', rfl, hw⟩ := h
    exact ⟨v', rfl, hw⟩
  | error x => exact ⟨_, h, OwnE.nil w' base⟩
theorem sIs_of (v : Value) (k d : Nat) (w : World) (h : Calls Tryd.prog 42 #[v] w fun e w' => e = .returned (.int .i64 (k : Int)) ∧ w' = w) :
    Calls Tryd.prog 33 #[v, .int .i64 (d : Int)] w fun e w' => e = .returned (.bool (decide (k = d))) ∧ w' = w := by
  have he : Hid (((k : Int) == (d : Int)) = decide (k = d)) := by
    show _ = _
    by_cases h : k = d
    · simp [h]
    · simp [h]; omega
  go_enter Tryd.func33, Tryd.ntmps33
  go_wp2_with fail
  refine h.mono ?_
  rintro e w1 ⟨rfl, rfl⟩
  clear h
  go_wp2
  go_ret
  exact ⟨congrArg (fun b => Ending.returned (.bool b)) he.out, rfl⟩
theorem sIs_res (o : Except Flw StV) (w : World) (ad : Nat → Addr) (h : ErrSet allErrs errTxt w ad) :
    Calls Tryd.prog 33 #[errF ad o, .int .i64 (numR o : Nat)] w fun e w' => e = .returned (.bool true) ∧ w' = w := by
  match o with
  | .ok _ => exact sIs_of _ 0 0 w (Of_none w)
  | .error .arg => exact sIs_of _ 1 1 w (Of_Arg errTxt w ad h errTxt_unlike)
  | .error .gap => exact sIs_of _ 11 11 w (Of_Gap errTxt w ad h errTxt_unlike)
  | .error .log => exact sIs_of _ 12 12 w (Of_Log errTxt w ad h errTxt_unlike)

set_option maxRecDepth 20000 in
set_option maxHeartbeats 1600000 in
theorem same13_any (l f : Nat) (va vb : Value) (xs : List Ent) (ER : Value) (NR : Nat) (w : World) (ha : SlE w va xs) (hb : SlE w vb xs) (hl : xs.length ≤ 140737488355328)
    (hI : ∀ u, Up w u → Calls Tryd.prog 33 #[ER, .int .i64 (NR : Nat)] u fun e w' => e = .returned (.bool true) ∧ w' = u) :
    Calls Tryd.prog 15 #[.agg #[V l, V f, va], ER, .agg #[V l, V f, vb], .int .i64 (NR : Nat)] w fun e w' => e = .returned (.bool true) ∧ Up w w' := by
  obtain ⟨a1, c1, e1⟩ := ha.shape
  obtain ⟨a2, c2, e2⟩ := hb.shape
  obtain ⟨N, hN⟩ : ∃ N, xs.length = N := ⟨_, rfl⟩
  rw [hN] at e1 e2
  subst e1 e2
  have u0 : Up w ((w.alloc (.cells #[V l, V f, .slice a1 N c1] 27)).alloc (.cells #[V l, V f, .slice a2 N c2] 27)) := (Up.alloc _ _).trans (Up.alloc _ _)
  have b1 : Box ((w.alloc (.cells #[V l, V f, .slice a1 N c1] 27)).alloc (.cells #[V l, V f, .slice a2 N c2] 27)) w.heap.size #[V l, V f, .slice a1 N c1] := (Box.new _ _ _).alloc _
  have b2 : Box ((w.alloc (.cells #[V l, V f, .slice a1 N c1] 27)).alloc (.cells #[V l, V f, .slice a2 N c2] 27)) (w.heap.size + 1) #[V l, V f, .slice a2 N c2] := Box.newAt (by simp)
  have hE := fun u (k : Up w u) => requal_any (.slice a1 N c1) (.slice a2 N c2) l f l f xs xs u (ha.up k) (hb.up k) hl hl
  simp only [decide_true] at hE
  have HI : Hid (∀ u, Up w u → Calls Tryd.prog 33 #[ER, .int .i64 (NR : Nat)] u fun e w' => e = .returned (.bool true) ∧ w' = u) := hI
  have HE : Hid (∀ u, Up w u → Calls Tryd.prog 12 #[.agg #[V l, V f, .slice a1 N c1], .agg #[V l, V f, .slice a2 N c2]] u fun e w' => e = .returned (.bool true) ∧ Up u w') := hE
  clear hI hE ha hb hN hl
  go_enter Tryd.func15, Tryd.ntmps15
  go_upto_region 1 with fail
  generalize (w.alloc (.cells #[V l, V f, .slice a1 N c1] 27)).alloc (.cells #[V l, V f, .slice a2 N c2] 27) = w0 at *
  generalize w.heap.size = B at *
  obtain ⟨s0, s1, s2⟩ := b1.c3
  obtain ⟨t0, t1, t2⟩ := b2.c3
  go_wp2_with fail
  refine (HI.out _ u0).mono ?_
  rintro e w1 ⟨rfl, e1⟩
  subst e1
  go_wp2_with fail
  refine (HE.out _ u0).mono ?_
  rintro e w2 ⟨rfl, u2⟩
  go_wp2
  go_ret
  exact ⟨rfl, u0.trans u2⟩
end Go.Proofs.YtdddfapelencoaaDoor

set_option linter.unusedVariables false
set_option linter.unusedSimpArgs false
namespace Go.Proofs.YtdddfapelencoaaDoor
open Go Go.RowKit

theorem resF_len (o : Except Flw StV) (h : ∀ s, o = .ok s → OkS s) : (resF o).keys.length ≤ 140737488355328 := by
  cases o with
  | ok s => have := (h s rfl).len; show s.keys.length ≤ _; omega
  | error x => exact Nat.zero_le _
theorem replay_ok {s t : StV} {n : Nat} {rs : List RecV} (h : replayS s n rs = .ok t) : OkS t := by
  unfold replayS at h
  split at h
  · rename_i hc
    simp only [Bool.and_eq_true] at hc
    have hs := (okS_iff s).1 hc.1
    split at h
    · exact run_ok _ hs h
    · exact run_ok _ hs h
  · cases h

set_option maxRecDepth 20000 in
set_option maxHeartbeats 6400000 in
theorem StateReplays_any (v : Value) (l f n : Nat) (xs : List Ent) (vr : Value) (rs : List RecV) (w : World) (ad : Nat → Addr) (hk : ErrSet allErrs errTxt w ad) (h : SlE w v xs) (hl : xs.length ≤ 140737488355328) (hxs : ∀ x ∈ xs, x.1.size ≤ 9223372036854775807)
    (hr : SlR w vr rs) (hrl : rs.length ≤ 140737488355328) (hcm : ∀ a m c, vr = .slice a m c → c ≤ maxLen) (hn : n < 18446744073709551616) (hl64 : l < 18446744073709551616) :
    Calls Tryd.prog 5 #[.agg #[V l, V f, v], V n, vr] w fun e w' => e = .returned (.bool true) ∧ Up w w' := by
  have HL : Hid (∀ u, Up w u → Calls Tryd.prog 6 #[] u fun e w' => e = .returned (.bool true) ∧ Up u w') := fun u uu => lives_any u ad (hk.few.up uu)
  have HREF : Hid (∀ m u, m < 18446744073709551616 → Up w u → Calls Tryd.prog 17 #[.agg #[V l, V f, v], V m, vr] u fun e w' => AP u.heap.size w' e (replayS ⟨l, f, xs⟩ m rs) ∧ Up u w') := fun m u hm uu => rReplay_any v l f m xs vr rs u (h.up uu) (by omega) hxs (hr.up uu) hrl hm
  have HPRG : Hid (∀ m u, m < 18446744073709551616 → Up w u → Calls Tryd.prog 18 #[.agg #[V l, V f, v], V m, vr] u (RunPost ad u (replayS ⟨l, f, xs⟩ m rs))) := fun m u hm uu => Replay_any v l f m xs vr rs ad u (h.up uu) (hr.up uu) (by omega) hm hrl hcm (hk.few.up uu)
  have HK : Hid (ErrSet allErrs errTxt w ad) := hk
  have HLEN : Hid (∀ m, (resF (replayS ⟨l, f, xs⟩ m rs)).keys.length ≤ 140737488355328) := fun m => resF_len _ fun s hs => replay_ok hs
  have HNN : Hid (n < 18446744073709551616) := hn
  obtain ⟨m, hm⟩ : ∃ m, (l + 1) % 18446744073709551616 = m := ⟨_, rfl⟩
  have HMM : Hid (m < 18446744073709551616) := by show _ < _; omega
  have hwm : IntKind.u64.wrap ((l : Int) + 1) = (m : Int) := by have := IntKind.wrap_u64 ((l : Int) + 1); omega
  obtain ⟨ao, cp, rfl⟩ := h.shape
  obtain ⟨N, hN⟩ : ∃ N, xs.length = N := ⟨_, rfl⟩
  obtain ⟨ar, cr, rfl⟩ := hr.shape
  obtain ⟨M, hM⟩ : ∃ M, rs.length = M := ⟨_, rfl⟩
  rw [hN] at HREF HPRG ⊢
  rw [hM] at HREF HPRG ⊢
  have u0 : Up w (w.alloc (.cells #[V l, V f, .slice ao N cp] 27)) := Up.alloc _ _
  have bs : Box (w.alloc (.cells #[V l, V f, .slice ao N cp] 27)) w.heap.size #[V l, V f, .slice ao N cp] := Box.new _ _ _
  clear h hk hr hl hxs hrl hcm hn hl64 hN hM hm
  go_enter Tryd.func5, Tryd.ntmps5
  go_upto_region 1 with fail
  generalize (w.alloc (.cells #[V l, V f, .slice ao N cp] 27)) = w0 at *
  generalize w.heap.size = B at *
  go_wp2_with fail
  refine (HL.out _ u0).mono ?_
  rintro e w1 ⟨rfl, u1⟩
  replace u0 := u0.trans u1
  replace bs := bs.up u1
  clear u1 HL
  obtain ⟨s0, s1, s2⟩ := bs.c3
  have hR := HREF.out n w1 HNN.out u0
  have HLN := HLEN.out n
  have HIS := fun u (k : Up w u) => sIs_res (replayS ⟨l, f, xs⟩ n rs) u ad (HK.out.up k)
  have hP := fun u (k : Up w u) => HPRG.out n u HNN.out k
  generalize replayS ⟨l, f, xs⟩ n rs = o1 at hR HLN HIS hP
  have HP : Hid (∀ u, Up w u → Calls Tryd.prog 18 #[.agg #[V l, V f, .slice ao N cp], V n, .slice ar M cr] u (RunPost ad u o1)) := hP
  clear hP
  go_wp2_with fail
  refine hR.mono ?_
  rintro e wa ⟨hA, ua⟩
  obtain ⟨va, rfl, sa⟩ := ref_res hA
  obtain ⟨aa, na, ca, rfl⟩ : ∃ a n c, va = .slice a n c := by obtain ⟨a, c, e⟩ := sa.shape; exact ⟨_, _, _, e⟩
  replace u0 := u0.trans ua
  replace bs := bs.up ua
  clear hA hR s0 s1 s2 ua
  obtain ⟨rl, rf, rk⟩ : ∃ rl rf, (resF o1).lsn = rl ∧ (resF o1).floor = rf := ⟨_, _, rfl, rfl⟩
  rw [rk.1, rk.2]
  have b7 : Box (wa.alloc (.cells #[V rl, V rf, .slice aa na ca] 27)) wa.heap.size #[V rl, V rf, .slice aa na ca] := Box.new _ _ _
  have H7 : Hid (w.heap.size ≤ wa.heap.size ∧ B < wa.heap.size) := ⟨u0.size, bs.lt⟩
  have u7 : Up wa (wa.alloc (.cells #[V rl, V rf, .slice aa na ca] 27)) := Up.alloc _ _
  replace u0 := u0.trans u7
  replace bs := bs.up u7
  replace sa := sa.up u7
  clear u7
  go_upto_region 4 with fail
  generalize wa.alloc (.cells #[V rl, V rf, .slice aa na ca] 27) = wb at *
  generalize wa.heap.size = K7 at *
  obtain ⟨s0, s1, s2⟩ := bs.c3
  go_wp2_with fail
  refine (HP.out _ u0).mono ?_
  intro e wc hA
  obtain ⟨⟨vb, rfl, sb⟩, ub⟩ := prog_res hA
  obtain ⟨ab, nb, cb, rfl⟩ : ∃ a n c, vb = .slice a n c := by obtain ⟨a, c, e⟩ := sb.shape; exact ⟨_, _, _, e⟩
  replace u0 := u0.trans ub
  replace bs := bs.up ub
  replace sa := sa.up ub
  replace b7 := b7.up ub
  clear hA s0 s1 s2 ub HP
  rw [rk.1, rk.2]
  have b9 : Box (wc.alloc (.cells #[V rl, V rf, .slice ab nb cb] 27)) wc.heap.size #[V rl, V rf, .slice ab nb cb] := Box.new _ _ _
  have u9 : Up wc (wc.alloc (.cells #[V rl, V rf, .slice ab nb cb] 27)) := Up.alloc _ _
  have hne : K7 < wc.heap.size := b7.lt
  replace u0 := u0.trans u9
  replace bs := bs.up u9
  replace sa := sa.up u9
  replace sb := sb.up u9
  replace b7 := b7.up u9
  have H9 : Hid (w.heap.size ≤ K7 ∧ B < K7 ∧ K7 < wc.heap.size) := ⟨H7.out.1, H7.out.2, hne⟩
  clear u9 hne
  go_upto_region 5 with fail
  generalize wc.alloc (.cells #[V rl, V rf, .slice ab nb cb] 27) = wd at *
  generalize wc.heap.size = K9 at *
  have hS := same13_any rl rf (.slice ab nb cb) (.slice aa na ca) (resF o1).keys (errF ad o1) (numR o1) wd sb sa HLN (fun u k => HIS u (u0.trans k))
  generalize errF ad o1 = E1 at *
  generalize numR o1 = N1 at *
  obtain ⟨x0, x1, x2⟩ := b7.c3
  obtain ⟨y0, y1, y2⟩ := b9.c3
  clear HIS HLN sa sb rk
  go_wp2_with fail
  refine hS.mono ?_
  rintro e we ⟨rfl, ue⟩
  clear x0 x1 x2 y0 y1 y2 hS
  replace u0 := u0.trans ue
  replace bs := bs.up ue
  replace b7 := b7.up ue
  replace b9 := b9.up ue
  clear ue
  obtain ⟨s0, s1, s2⟩ := bs.c3
  have H9' := H9.out
  have hKe : K9 < we.heap.size := b9.lt
  have HKE : Hid (K9 < we.heap.size ∧ w.heap.size ≤ K7 ∧ B < K7 ∧ K7 < K9) := ⟨hKe, H9'.1, H9'.2.1, H9'.2.2⟩
  clear H7 H9 H9' hKe
  have hR := HREF.out m we HMM.out u0
  have HLN := HLEN.out m
  have HIS := fun u (k : Up w u) => sIs_res (replayS ⟨l, f, xs⟩ m rs) u ad (HK.out.up k)
  have hP := fun u (k : Up w u) => HPRG.out m u HMM.out k
  generalize replayS ⟨l, f, xs⟩ m rs = o2 at hR HLN HIS hP
  have HP : Hid (∀ u, Up w u → Calls Tryd.prog 18 #[.agg #[V l, V f, .slice ao N cp], V m, .slice ar M cr] u (RunPost ad u o2)) := hP
  clear hP
  go_wp2_with fail
  refine hR.mono ?_
  rintro e wf ⟨hA, ua⟩
  obtain ⟨va, rfl, oa⟩ := ref_own hA
  obtain ⟨aa2, na2, ca2, rfl⟩ : ∃ a n c, va = .slice a n c := by obtain ⟨a, c, e⟩ := oa.shape; exact ⟨_, _, _, e⟩
  replace u0 := u0.trans ua
  replace bs := bs.up ua
  replace b7 := b7.up ua
  replace b9 := b9.up ua
  have hza : we.heap.size ≤ wf.heap.size := ua.size
  clear hA hR s0 s1 s2 ua
  obtain ⟨rl2, rf2, rk⟩ : ∃ rl rf, (resF o2).lsn = rl ∧ (resF o2).floor = rf := ⟨_, _, rfl, rfl⟩
  rw [rk.1, rk.2]
  obtain ⟨wg, hwg, g7, gu, gs, g9, ga, hzg⟩ : ∃ wg, wg = ((wf.setCell ⟨K7, 0, none⟩ (V rl2)).setCell ⟨K7, 1, none⟩ (V rf2)).setCell ⟨K7, 2, none⟩ (.slice aa2 na2 ca2) ∧ Box wg K7 #[V rl2, V rf2, .slice aa2 na2 ca2] ∧ Up w wg ∧ Box wg B #[V l, V f, .slice ao N cp] ∧ (∃ p0 p1 p2, Box wg K9 #[p0, p1, p2]) ∧ OwnE wg we.heap.size (.slice aa2 na2 ca2) (resF o2).keys ∧ wf.heap.size ≤ wg.heap.size := by
    have h1 := HKE.out
    have hset : Touch wf (((wf.setCell ⟨K7, 0, none⟩ (V rl2)).setCell ⟨K7, 1, none⟩ (V rf2)).setCell ⟨K7, 2, none⟩ (.slice aa2 na2 ca2)) [K7] := (((Touch.refl _ [K7]).setCell (.inl (by simp)) 0 _).setCell (.inl (by simp)) 1 _).setCell (.inl (by simp)) 2 _
    exact ⟨_, rfl, b7.set3, ((Touch.of_up u0 [K7]).trans hset (fun k hk => .inl hk)).up (fun k hk => by simp only [List.mem_singleton] at hk; omega), Touch.box bs hset (by simp only [List.mem_singleton]; omega), ⟨_, _, _, Touch.box b9 hset (by simp only [List.mem_singleton]; omega)⟩, oa.kept hset (fun k hk => by have := (oa.ge k hk).1; simp only [List.mem_singleton]; omega), hset.size⟩
  obtain ⟨x0, x1, x2⟩ := b7.c3
  have xf := b7.frozen
  clear oa b7 b9 bs u0
  go_upto_region 8 with fail
  generalize hq : World.setCell _ _ _ = wq
  obtain rfl : wq = wg := hq.symm.trans hwg.symm
  clear hq hwg x0 x1 x2 xf
  obtain ⟨p0, p1, p2, b9⟩ := g9
  obtain ⟨s0, s1, s2⟩ := gs.c3
  go_wp2_with fail
  refine (HP.out _ gu).mono ?_
  intro e wh hA
  obtain ⟨⟨vb, rfl, ob2⟩, ub⟩ := prog_own hA
  obtain ⟨ab2, nb2, cb2, rfl⟩ : ∃ a n c, vb = .slice a n c := by obtain ⟨a, c, e⟩ := ob2.shape; exact ⟨_, _, _, e⟩
  replace gu := gu.trans ub
  replace gs := gs.up ub
  replace g7 := g7.up ub
  replace b9 := b9.up ub
  replace ga := ga.up ub
  clear hA s0 s1 s2 ub HP
  rw [rk.1, rk.2]
  obtain ⟨wi, hwi, i9, iu, i7, ia, ib⟩ : ∃ wi, wi = ((wh.setCell ⟨K9, 0, none⟩ (V rl2)).setCell ⟨K9, 1, none⟩ (V rf2)).setCell ⟨K9, 2, none⟩ (.slice ab2 nb2 cb2) ∧ Box wi K9 #[V rl2, V rf2, .slice ab2 nb2 cb2] ∧ Up w wi ∧ Box wi K7 #[V rl2, V rf2, .slice aa2 na2 ca2] ∧ SlE wi (.slice aa2 na2 ca2) (resF o2).keys ∧ SlE wi (.slice ab2 nb2 cb2) (resF o2).keys := by
    have h1 := HKE.out
    have hset : Touch wh (((wh.setCell ⟨K9, 0, none⟩ (V rl2)).setCell ⟨K9, 1, none⟩ (V rf2)).setCell ⟨K9, 2, none⟩ (.slice ab2 nb2 cb2)) [K9] := (((Touch.refl _ [K9]).setCell (.inl (by simp)) 0 _).setCell (.inl (by simp)) 1 _).setCell (.inl (by simp)) 2 _
    exact ⟨_, rfl, b9.set3, ((Touch.of_up gu [K9]).trans hset (fun k hk => .inl hk)).up (fun k hk => by simp only [List.mem_singleton] at hk; omega), Touch.box g7 hset (by simp only [List.mem_singleton]; omega), (ga.kept hset (fun k hk => by have := (ga.ge k hk).1; simp only [List.mem_singleton]; omega)).sl, (ob2.kept hset (fun k hk => by have := (ob2.ge k hk).1; simp only [List.mem_singleton]; omega)).sl⟩
  obtain ⟨x0, x1, x2⟩ := b9.c3
  have xf := b9.frozen
  clear ga ob2 g7 b9 gs gu
  go_upto_region 9 with fail
  generalize hq : World.setCell _ _ _ = wq2
  obtain rfl : wq2 = wi := hq.symm.trans hwi.symm
  clear hq hwi x0 x1 x2 xf
  have hS := same13_any rl2 rf2 (.slice ab2 nb2 cb2) (.slice aa2 na2 ca2) (resF o2).keys (errF ad o2) (numR o2) wq2 ib ia HLN (fun u k => HIS u (iu.trans k))
  generalize errF ad o2 = E2 at *
  generalize numR o2 = N2 at *
  obtain ⟨x0, x1, x2⟩ := i7.c3
  obtain ⟨y0, y1, y2⟩ := i9.c3
  clear HIS HLN ia ib rk
  go_wp2_with fail
  refine hS.mono ?_
  rintro e wj ⟨rfl, ue⟩
  have uu := iu.trans ue
  clear x0 x1 x2 y0 y1 y2 hS
  go_wp2
  go_ret
  exact ⟨rfl, uu⟩
end Go.Proofs.YtdddfapelencoaaDoor
