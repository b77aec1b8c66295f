/- table: TableRuns's walk. Own work. -/
import Derived.Test.YtldmiieepikjnaaTbRunsI
set_option linter.unusedVariables false
set_option linter.unusedSimpArgs false
namespace Go.Proofs.Ytldmiieepikjnaa
open Go Go.RowKit
attribute [local go_sem] Oper.semAt_some wideFn

theorem box4r {w : World} {k : Nat} {a b c d : Value} (h : Box w k #[a, b, c, d]) : w.cell? ⟨k, 0, none⟩ = some a ∧ w.cell? ⟨k, 1, none⟩ = some b ∧ w.cell? ⟨k, 2, none⟩ = some c ∧ w.cell? ⟨k, 3, none⟩ = some d := ⟨h.cell 0, h.cell 1, h.cell 2, h.cell 3⟩

set_option maxRecDepth 100000 in
set_option maxHeartbeats 16000000 in
theorem TableRuns_any (lim : Int) (fv wv : Value) (key : ByteArray) (fs ws : List OpT) (w : World) (hf : OpsT w fv fs) (hwv : OpsT w wv ws) (hfn : fs.length ≤ 1048576) (hwn : ws.length ≤ 1048576) (hkf : ∀ q ∈ fs, KeyOk q.key) (hkw : ∀ q ∈ ws, KeyOk q.key) (hkey : KeyOk key) :
    Calls Try.prog 4 #[.agg #[.int .i64 lim, fv, .string key, wv]] w fun e w' => e = .returned (.bool true) ∧ Up w w' := by
  obtain ⟨fo, fc, rfl, hx⟩ := hf
  have HQ : Hid (∀ i (h : i < fs.length) {w' : World}, Up w w' → ∃ b o, fo = some ⟨b, o, none⟩ ∧ OpTAt w' b (o + i * 4) fs[i] ∧ KeyOk fs[i].key) := fun i h {w'} u => by
    obtain ⟨b, o, rfl, h1⟩ := hx (by rintro rfl; simp at h)
    exact ⟨b, o, rfl, (h1 i h).up u, hkf _ (List.getElem_mem h)⟩
  obtain ⟨wo, wc, rfl, hx2⟩ := hwv
  have HW : Hid (∀ i (h : i < ws.length) {w' : World}, Up w w' → ∃ b o, wo = some ⟨b, o, none⟩ ∧ OpTAt w' b (o + i * 4) ws[i] ∧ KeyOk ws[i].key) := fun i h {w'} u => by
    obtain ⟨b, o, rfl, h1⟩ := hx2 (by rintro rfl; simp at h)
    exact ⟨b, o, rfl, (h1 i h).up u, hkw _ (List.getElem_mem h)⟩
  obtain ⟨N, hN⟩ : ∃ N, fs.length = N := ⟨_, rfl⟩
  have HN : Hid (fs.length = N) := hN
  obtain ⟨M, hM⟩ : ∃ M, ws.length = M := ⟨_, rfl⟩
  have HM : Hid (ws.length = M) := hM
  have HK : Hid (KeyOk key) := hkey
  rw [hN] at hfn ⊢
  rw [hM] at hwn ⊢
  clear hx hx2 hkf hkw hN hM hkey
  have bR : Box (w.alloc (.cells #[.int .i64 lim, .slice fo N fc, .string key, .slice wo M wc] 44)) w.heap.size #[.int .i64 lim, .slice fo N fc, .string key, .slice wo M wc] := Box.new _ _ _
  have uR := Up.alloc w (.cells #[.int .i64 lim, .slice fo N fc, .string key, .slice wo M wc] 44)
  generalize hV0 : w.alloc (.cells #[.int .i64 lim, .slice fo N fc, .string key, .slice wo M wc] 44) = V0 at bR uR
  have bB := Boxed.new V0 4 (.bool false)
  have uB := Up.alloc V0 (.cells #[.bool false] 4)
  refine (callsIn_wide (n := 5)).1 ?_
  refine callsIn_of_wp_marks Try.func4 rfl trivial ?_ rfl
  simp only [Try.ntmps4, List.size_toArray, List.length_cons, List.length_nil, Nat.reduceAdd, Nat.reduceSub, Array.replicate_succ, Array.replicate_zero, List.push_toArray, List.append_toArray, List.nil_append, List.cons_append]
  refine wpIn_wide.2 ?_
  go_wp2_with fail
  have bR1 := bR.up uB
  have uA := uR.trans uB
  have hRB0 : w.heap.size ≤ V0.heap.size := uR.size
  generalize V0.heap.size = RB at bB hRB0 ⊢
  generalize V0.alloc (.cells #[.bool false] 4) = V1 at bB bR1 uA ⊢
  clear bR uR uB hV0
  refine (awake_any V1).mono ?_
  rintro e V2 ⟨rfl, u2⟩
  have bR2 := bR1.up u2
  obtain ⟨r0, r1, r2, r3⟩ := box4r bR2
  have bW := Boxed.new V2 22 (.slice wo M wc)
  have uW := Up.alloc V2 (.cells #[.slice wo M wc] 22)
  go_wp2_with fail
  clear r0 r1 r2 r3 bR1 bR2
  have bB3 := boxed_touch bB (Touch.of_up (u2.trans uW) []) (by simp)
  have uA3 := uA.trans (u2.trans uW)
  generalize V2.heap.size = WB at bW ⊢
  generalize V2.alloc (.cells #[.slice wo M wc] 22) = V3 at bW bB3 uA3 ⊢
  clear bB uA u2 uW
  refine (NewI_any lim V3).mono ?_
  rintro e V4 ⟨rfl, t4, u4⟩
  have bT := Boxed.new V4 24 (.pointer (some ⟨V3.heap.size, 0, none⟩))
  have uT := Up.alloc V4 (.cells #[.pointer (some ⟨V3.heap.size, 0, none⟩)] 24)
  go_wp2_with fail
  have uU := u4.trans uT
  have bB5 := boxed_touch bB3 (Touch.of_up uU []) (by simp)
  have bW5 := boxed_touch bW (Touch.of_up uU []) (by simp)
  have uA5 := uA3.trans uU
  have t5 := t4.up uT
  generalize V4.heap.size = TB at bT ⊢
  generalize V4.alloc (.cells #[.pointer (some ⟨V3.heap.size, 0, none⟩)] 24) = V5 at bT bB5 bW5 uA5 t5 ⊢
  have hA3 := uA3.size
  clear bB3 bW uA3 t4 u4 uT uU
  generalize V3.heap.size = tb at bT t5 hA3 ⊢
  refine (rNew_any lim V5).mono ?_
  rintro e V6 ⟨rfl, r6, u6⟩
  have bU := Boxed.new V6 27 (.pointer (some ⟨V5.heap.size, 0, none⟩))
  have uT := Up.alloc V6 (.cells #[.pointer (some ⟨V5.heap.size, 0, none⟩)] 27)
  have uU := u6.trans uT
  have bB7 := boxed_touch bB5 (Touch.of_up uU []) (by simp)
  have bW7 := boxed_touch bW5 (Touch.of_up uU []) (by simp)
  have bT7 := boxed_touch bT (Touch.of_up uU []) (by simp)
  have uA7 := uA5.trans uU
  have t7 := t5.up uU
  have r7 := r6.up uT
  have hA5 := uA5.size
  have c7 := bT7.cell
  go_wp2_with fail
  generalize V6.heap.size = UB at bU ⊢
  generalize V6.alloc (.cells #[.pointer (some ⟨V5.heap.size, 0, none⟩)] 27) = V7 at bU bB7 bW7 bT7 uA7 t7 r7 c7 ⊢
  clear bB5 bW5 bT uA5 t5 r6 u6 uT uU c7
  generalize V5.heap.size = ur at bU r7 hA5 ⊢
  have q1 := FromI_any (some ⟨tb, 0, none⟩) key V7
  have hnf := nf1
  refine q1.mono ?_
  clear q1
  rintro e V8 ⟨rfl, hV8⟩
  have u8 : Up V7 V8 := by rw [hV8]; exact (Up.alloc _ _).trans (Up.alloc _ _)
  have bCA : Boxed V8 V7.heap.size 24 (.pointer (some ⟨tb, 0, none⟩)) := by rw [hV8]; exact (Boxed.new _ _ _).alloc _
  have bCK : Boxed V8 (V7.heap.size + 1) 9 (.string key) := by rw [hV8]; exact Boxed.newAt' (by rw [World.size_alloc])
  have E0 : Hid (Rn12 w RB WB TB UB V7.heap.size (V7.heap.size + 1) (.slice wo M wc) (some ⟨tb, 0, none⟩) (some ⟨ur, 0, none⟩) key lim 0 V8) :=
    ⟨[], [tb, ur], .inr ⟨tb, ur, .slice none 0 0, rfl, rfl, t7.up u8, r7.up u8, rfl⟩, by simp only [List.mem_cons, List.not_mem_nil, or_false]; rintro k (rfl | rfl) <;> omega, (⟨boxed_touch bB7 (Touch.of_up u8 []) (by simp), boxed_touch bW7 (Touch.of_up u8 []) (by simp), boxed_touch bT7 (Touch.of_up u8 []) (by simp), boxed_touch bU (Touch.of_up u8 []) (by simp), bCA, bCK⟩ : Bx RB WB TB UB V7.heap.size (V7.heap.size + 1) (.slice wo M wc) (some ⟨tb, 0, none⟩) (some ⟨ur, 0, none⟩) key V8), uA7.trans u8, Nat.le_refl _⟩
  clear bCA bCK u8 t7 r7 bB7 bW7 bT7 bU uA7 hA3 hA5 hV8
  obtain ⟨tp, htp⟩ : ∃ tp : Option Addr, tp = some ⟨tb, 0, none⟩ := ⟨_, rfl⟩
  obtain ⟨up, hup⟩ : ∃ up : Option Addr, up = some ⟨ur, 0, none⟩ := ⟨_, rfl⟩
  rw [← htp, ← hup] at E0
  clear htp hup
  generalize V7.heap.size + 1 = CK at E0 ⊢
  generalize V7.heap.size = CA at E0 ⊢
  have hNb : (N : Int) ≤ 1048576 := by omega
  go_wp2_with fail
  clear hnf
  go_loopg [10] N (fun g s wr => ∃ i : Nat, s = .int .i64 (i : Int) ∧ g + i = N ∧ Hid (Rn12 w RB WB TB UB CA CK (.slice wo M wc) tp up key lim i wr))
  case atStart => exact ⟨0, rfl, rfl, E0⟩
  case round =>
    obtain ⟨i, rfl, hgi, hE⟩ := hrel
    clear E0
    by_cases hlt : i < N
    · obtain ⟨xs, S, hH, hS, hB, hU, hxl⟩ := hE.out
      obtain ⟨gb, o, rfl, hop, hkq⟩ := HQ.out i (by rw [HN.out]; exact hlt) hU
      have HO : Hid (∀ {w' : World}, Up w w' → OpTAt w' gb (o + i * 4) (fs[i]'(by rw [HN.out]; exact hlt))) := fun u => by
        obtain ⟨b', o', he, hc, _⟩ := HQ.out i (by rw [HN.out]; exact hlt) u
        simp only [Option.some.injEq, Addr.mk.injEq, and_true] at he
        obtain ⟨rfl, rfl⟩ := he
        exact hc
      obtain ⟨q, hq⟩ : ∃ q, (fs[i]'(by rw [HN.out]; exact hlt)) = q := ⟨_, rfl⟩
      rw [hq] at hop hkq HO
      clear hq hop
      obtain ⟨kind, on, qk, val⟩ := q
      have hiN : (i : Int) < (N : Int) := by omega
      have hw : IntKind.i64.wrap ((i : Int) + 1) = ((i + 1 : Nat) : Int) := by rw [IntKind.wrap_i64]; omega
      have HG : Hid (gk + i = N ∧ i < N) := ⟨hgi, hlt⟩
      have hx4 : xs.length ≤ 4000000000000 := by omega
      have FIN : Hid (∀ {wa wb : World}, Touch wr wa S → HDone wa tp up lim (chg lim ⟨kind, on, qk, val⟩ xs) (chg lim ⟨kind, on, qk, val⟩ xs) S wb → Rn12 w RB WB TB UB CA CK (.slice wo M wc) tp up key lim (i + 1) wb) := fun ta hd => rn_next hH hS hB hU hxl ta hd
      have UPP : Hid (∀ {w' : World}, Touch wr w' S → Up w w' ∧ w'.cell? ⟨TB, 0, none⟩ = some (.pointer tp) ∧ w'.cell? ⟨UB, 0, none⟩ = some (.pointer up)) := fun t => ⟨((Touch.of_up hU []).trans t (fun k hk => .inr (hS k hk))).up (by simp), (hB.touch hH t).tb.cell, (hB.touch hH t).ub.cell⟩
      have kD := fun {w' : World} (u : Up wr w') => do_any (hH.up u) ⟨kind, on, qk, val⟩ hkq hx4
      have kE := fun {w' : World} {zs : List (KV Int)} (h : Half w' tp up lim zs xs S) => done_any h ⟨kind, on, qk, val⟩ hkq hx4
      generalize chg lim ⟨kind, on, qk, val⟩ xs = zs at kD kE FIN
      clear hE hgi hlt hH hS hB hU hxl hx4 hkq
      have sof : ∀ {w' : World}, Touch wr w' S → w'.cell? ⟨TB, 0, none⟩ = some (.pointer tp) ∧ w'.cell? ⟨UB, 0, none⟩ = some (.pointer up) ∧ w'.cell? ⟨gb, o + i * 4, none⟩ = some (.int .i64 kind) ∧ w'.cell? ⟨gb, o + i * 4 + 1, none⟩ = some (.int .i64 on) ∧ w'.cell? ⟨gb, o + i * 4 + 2, none⟩ = some (.string qk) ∧ w'.cell? ⟨gb, o + i * 4 + 3, none⟩ = some (.int .i64 val) := fun t => by
        obtain ⟨u, a1, a2⟩ := UPP.out t
        exact ⟨a1, a2, HO.out u⟩
      have hs := sof (Touch.of_up (Up.drew wr) S)
      go_wp2_with fail
      go_region_held3 (fun w' => w'.cell? ⟨TB, 0, none⟩ = some (.pointer tp) ∧ w'.cell? ⟨UB, 0, none⟩ = some (.pointer up) ∧ w'.cell? ⟨gb, o + i * 4, none⟩ = some (.int .i64 kind) ∧ w'.cell? ⟨gb, o + i * 4 + 1, none⟩ = some (.int .i64 on) ∧ w'.cell? ⟨gb, o + i * 4 + 2, none⟩ = some (.string qk) ∧ w'.cell? ⟨gb, o + i * 4 + 3, none⟩ = some (.int .i64 val)) (exact hs)
        (first
        | (go_at_call 24; refine (kD (Up.drew wr)).mono ?_; clear kD hs; rintro e wa ⟨rfl, ha, ta⟩; have tb := (Touch.of_up (Up.drew wr) S).trans ta (fun k hk => .inl hk); have hs := sof tb))
      clear hs
      have tc := tb.trans (Touch.of_up (Up.drew wa) S) (fun k hk => .inl hk)
      have hs := sof tc
      have kF := kE (ha.up (Up.drew wa))
      clear kE ha ta
      go_wp2_with fail
      go_region_held3 (fun w' => w'.cell? ⟨TB, 0, none⟩ = some (.pointer tp) ∧ w'.cell? ⟨UB, 0, none⟩ = some (.pointer up) ∧ w'.cell? ⟨gb, o + i * 4, none⟩ = some (.int .i64 kind) ∧ w'.cell? ⟨gb, o + i * 4 + 1, none⟩ = some (.int .i64 on) ∧ w'.cell? ⟨gb, o + i * 4 + 2, none⟩ = some (.string qk) ∧ w'.cell? ⟨gb, o + i * 4 + 3, none⟩ = some (.int .i64 val)) (exact hs)
        (first
        | (go_at_call 25; refine kF.mono ?_; clear kF hs; rintro e wb ⟨rfl, hb⟩; have hs := sof (touch_done tc hb)))
      clear hs sof
      go_wp2_with fail
      go_roundg (N - (i + 1))
      case measure => have := HG.out; omega
      case rel => exact ⟨i + 1, by simp, by have := HG.out; omega, FIN.out tc hb⟩
    · obtain rfl : i = N := by omega
      have hiN : ¬ ((i : Int) < (i : Int)) := by omega
      have HE : Hid (Rn12 w RB WB TB UB CA CK (.slice wo M wc) tp up key lim i wr) := hE.out
      have HNb : Hid (i ≤ 1048576 ∧ M ≤ 1048576) := ⟨hfn, hwn⟩
      clear hE hgi hlt HQ HN hfn hwn hNb
      go_wp2_with fail
      refine wp_loop_rounds 3 ?_
      obtain ⟨xs, S, hH, hS, hB, hU, hxl⟩ := HE.out
      clear HE
      have hc := hB.ub.cell
      rw [rounds_succ]
      go_wp2_with fail
      have hx4 : xs.length ≤ 4000000000000 := by have := HNb.out; omega
      refine (rFromH hH key HK.out hx4).mono ?_
      rintro e W1 ⟨wantv, rfl, hw1, hob, u1⟩
      obtain ⟨wao, wcap, rfl⟩ := hw1.slice
      have s1 := Boxed.new W1 39 (.slice wao (fromL key xs).length wcap)
      have s2 := Boxed.new (W1.alloc (.cells #[.slice wao (fromL key xs).length wcap] 39)) 3 (.int .i64 0)
      go_wp2_with fail
      refine (wpIn_wide (n := 5)).1 ?_
      -- the going through
      have u3 : Up wr ((W1.alloc (.cells #[.slice wao (fromL key xs).length wcap] 39)).alloc (.cells #[.int .i64 0] 3)) := (u1.trans (Up.alloc _ _)).trans (Up.alloc _ _)
      have hwl : fromL key xs ≠ [] → ∀ k ∈ ob (.slice wao (fromL key xs).length wcap), k < W1.heap.size := fun hz k hk => by
        obtain ⟨ao', cap', he, _, hx⟩ := hw1
        simp only [Value.slice.injEq, true_and] at he
        obtain ⟨rfl, rfl⟩ := he
        obtain ⟨g, o, rfl, h1⟩ := hx hz
        simp [ob, Value.ownBlock] at hk
        obtain ⟨_, rfl⟩ := hk
        exact World.block_lt_of_cell? W1 _ (h1 0 (List.length_pos_iff.2 hz)).1
      rw [World.size_alloc] at s2
      have h0 : RgI w RB WB TB UB CA CK (.slice wo M wc) tp up key lim W1.heap.size (W1.heap.size + 1) (((W1.alloc (.cells #[.slice wao (fromL key xs).length wcap] 39)).alloc (.cells #[.int .i64 0] 3)).heap.size) (.slice wao (fromL key xs).length wcap) (fromL key xs) xs.length [] [] ((W1.alloc (.cells #[.slice wao (fromL key xs).length wcap] 39)).alloc (.cells #[.int .i64 0] 3)) :=
        ⟨xs, S, hH.up u3, hS, hB.upp u3, hU.trans u3, by simp, s1.alloc _, s2, (hw1.up (Up.alloc _ _)).up (Up.alloc _ _), fun hz k hk e => by have := hob k hk; have := hH.lt k e; omega, Nat.le_refl _, by simp, List.nil_prefix⟩
      have HS := stopsP 4 CA CK key ((hH.up u3).tabP) (hB.upp u3).ca.cell (hB.upp u3).ck.cell
      have hB1 : W1.heap.size + 2 ≤ ((W1.alloc (.cells #[.slice wao (fromL key xs).length wcap] 39)).alloc (.cells #[.int .i64 0] 3)).heap.size := by simp only [World.size_alloc]; omega
      have hBx : Hid (w.heap.size ≤ W1.heap.size ∧ RB < W1.heap.size ∧ WB < W1.heap.size ∧ TB < W1.heap.size ∧ UB < W1.heap.size ∧ CA < W1.heap.size ∧ CK < W1.heap.size) := by
        have a0 := hU.size; have a1 := u1.size; have b1 := hB.rb.lt; have b2 := hB.wb.lt; have b3 := hB.tb.lt; have b4 := hB.ub.lt; have b5 := hB.ca.lt; have b6 := hB.ck.lt
        exact ⟨by omega, by omega, by omega, by omega, by omega, by omega, by omega⟩
      have hzl : (fromL key xs).length ≤ xs.length := List.length_filter_le ..
      have HXL : Hid (xs.length ≤ 1048576 ∧ (fromL key xs).length ≤ xs.length) := ⟨by have := HNb.out; omega, hzl⟩
      generalize (W1.alloc (.cells #[.slice wao (fromL key xs).length wcap] 39)).alloc (.cells #[.int .i64 0] 3) = W3 at h0 HS hB1 u3 ⊢
      generalize W1.heap.size = WN at h0 hBx hB1 hwl ⊢
      have hBw : w.heap.size ≤ W3.heap.size := by have := hBx.out; omega
      generalize fromL key xs = ZS at h0 HS HXL hwl ⊢
      generalize xs.length = L0 at h0 HXL
      clear s1 s2 hw1 hob u1 u3 hH hS hB hU hxl hx4 hzl hc
      refine range12 (gf := 51) (lb := #[.pointer (some ⟨CA, 0, none⟩), .pointer (some ⟨CK, 0, none⟩)]) rfl (enters_of Try.func51 (by kernel_rfl) rfl)
        HS (RgI w RB WB TB UB CA CK (.slice wo M wc) tp up key lim WN (WN + 1) W3.heap.size (.slice wao ZS.length wcap) ZS L0 [])
        (RgI_own hBw (fun hz k hk => by have := hwl hz k hk; omega) (by first | (intro D hD; cases hD; done) | (intro D hD; simp at hD; subst hD; exact hD1))) h0 ?assign ?body ?done
      case assign =>
        intro l x W K hK
        gi_wp2
        exact hK
      case body =>
        intro l pre x W hI hlen
        obtain ⟨xs, S, h1, h2, h3, h4, h5, h6, h7, h8, h9, h10, h11, h12⟩ := hI
        have hst := pre_step (x := x) h12 hlen
        obtain ⟨g, o, rfl, hz1, hz2⟩ : ∃ g o, wao = some ⟨g, o, none⟩ ∧ W.cell? ⟨g, o + pre.length * 2, none⟩ = some (.string (ZS[pre.length]'hlen).1) ∧ W.cell? ⟨g, o + pre.length * 2 + 1, none⟩ = some (.int .i64 (ZS[pre.length]'hlen).2) := by
          obtain ⟨_, _, he, _, hx⟩ := h8
          simp only [Value.slice.injEq, true_and] at he
          obtain ⟨rfl, rfl⟩ := he
          obtain ⟨g, o, rfl, h1⟩ := hx (by rintro rfl; simp at hlen)
          exact ⟨g, o, rfl, h1 _ hlen⟩
        obtain ⟨xk, xv⟩ := x
        obtain ⟨zk, hzk⟩ : ∃ zk, (ZS[pre.length]'hlen).1 = zk := ⟨_, rfl⟩
        obtain ⟨zv, hzv⟩ : ∃ zv, (ZS[pre.length]'hlen).2 = zv := ⟨_, rfl⟩
        have hzz : ZS[pre.length]'hlen = (zk, zv) := Prod.ext hzk hzv
        rw [hzk] at hz1
        rw [hzv] at hz2
        rw [hzz] at hst
        have hnl : (pre.length : Int) < (ZS.length : Int) := by omega
        have hng : ¬ ((pre.length : Int) ≥ (ZS.length : Int)) := by omega
        have cN := h7.cell
        have cW := h6.cell
        have cwb := h3.wb.cell
        have cR := h3.rb.cell
        have fR := h3.rb.frozen
        by_cases hx : (zk, zv) = (xk, xv)
        · simp only [Prod.mk.injEq] at hx
          obtain ⟨rfl, rfl⟩ := hx
          have hpp := hst.1 rfl
          have hbx := hBx.out
          have HST : Hid (∀ {W1 : World} {xs1 : List (KV Int)} {S1 : List Nat}, Half W1 tp up lim xs1 xs1 S1 → Touch W W1 S → (∀ k ∈ S1, k ∈ S ∨ W.heap.size ≤ k) → xs1.length ≤ xs.length + 1 →
              KeepsOthers W (W1.setCell ⟨WN + 1, 0, none⟩ (.int .i64 ((pre.length + 1 : Nat) : Int))) ∧ StI W (W1.setCell ⟨WN + 1, 0, none⟩ (.int .i64 ((pre.length + 1 : Nat) : Int))) ∧ RgI w RB WB TB UB CA CK (.slice wo M wc) tp up key lim WN (WN + 1) W3.heap.size (.slice (some ⟨g, o, none⟩) ZS.length wcap) ZS L0 [] (pre ++ [(zk, zv)]) (W1.setCell ⟨WN + 1, 0, none⟩ (.int .i64 ((pre.length + 1 : Nat) : Int)))) := fun H t hs hl =>
            RgI_step h1 h2 h3 h4 h5 h6 h7 h8 h9 h10 h11 (fun hz hk => by have := hwl hz _ hk; omega) (by omega) (fun hz k hk => by have := hwl hz k hk; omega) (by omega) ⟨by omega, by omega, by omega, by omega, by omega, by omega⟩ H t hs hl hpp
          have hw5 : IntKind.i64.wrap ((pre.length : Int) + 1) = ((pre.length + 1 : Nat) : Int) := by have := HXL.out; rw [IntKind.wrap_i64]; omega
          have HX4 : Hid (xs.length ≤ 4000000000000) := by have := HXL.out; show xs.length ≤ 4000000000000; omega
          clear h5 h6 h8 h9 h10 h11 h12 hzk hzv hzz hst hpp hbx
          by_cases hm : pre.length < M
          · obtain ⟨gb, oo, rfl, hop, hkq⟩ := HW.out pre.length (by rw [HM.out]; exact hm) h4
            have HO : Hid (∀ {w' : World}, Up w w' → OpTAt w' gb (oo + pre.length * 4) (ws[pre.length]'(by rw [HM.out]; exact hm))) := fun u => by
              obtain ⟨b', o', he, hc, _⟩ := HW.out pre.length (by rw [HM.out]; exact hm) u
              simp only [Option.some.injEq, Addr.mk.injEq, and_true] at he
              obtain ⟨rfl, rfl⟩ := he
              exact hc
            obtain ⟨q, hq⟩ : ∃ q, (ws[pre.length]'(by rw [HM.out]; exact hm)) = q := ⟨_, rfl⟩
            rw [hq] at hkq HO
            clear hq hop
            obtain ⟨kind, on, qk, val⟩ := q
            have hmi : (pre.length : Int) < (M : Int) := by omega
            have FIN : Hid (∀ {wa wb : World}, Touch W wa S → HDone wa tp up lim (chg lim ⟨kind, on, qk, val⟩ xs) (chg lim ⟨kind, on, qk, val⟩ xs) S wb → KeepsOthers W (wb.setCell ⟨WN + 1, 0, none⟩ (.int .i64 ((pre.length + 1 : Nat) : Int))) ∧ StI W (wb.setCell ⟨WN + 1, 0, none⟩ (.int .i64 ((pre.length + 1 : Nat) : Int))) ∧ RgI w RB WB TB UB CA CK (.slice (some ⟨gb, oo, none⟩) M wc) tp up key lim WN (WN + 1) W3.heap.size (.slice (some ⟨g, o, none⟩) ZS.length wcap) ZS L0 [] (pre ++ [(zk, zv)]) (wb.setCell ⟨WN + 1, 0, none⟩ (.int .i64 ((pre.length + 1 : Nat) : Int)))) := fun ta ⟨S', a1, a2, a3⟩ =>
              HST.out a1 (ta.trans a2 (fun k hk => .inl hk)) (fun k hk => (a3 k hk).elim .inl (fun e => .inr (Nat.le_trans ta.size e))) (len_chg h1.srt)
            have UPP : Hid (∀ {w' : World}, Touch W w' S → Up w w' ∧ w'.cell? ⟨TB, 0, none⟩ = some (.pointer tp) ∧ w'.cell? ⟨UB, 0, none⟩ = some (.pointer up) ∧ w'.cell? ⟨WB, 0, none⟩ = some (.slice (some ⟨gb, oo, none⟩) M wc) ∧ w'.cell? ⟨WN + 1, 0, none⟩ = some (.int .i64 (pre.length : Int)) ∧ w'.frozen? ⟨WN + 1, 0, none⟩ = false) := fun t => ⟨((Touch.of_up h4 []).trans t (fun k hk => .inr (h2 k hk))).up (by simp), (h3.touch h1 t).tb.cell, (h3.touch h1 t).ub.cell, (h3.touch h1 t).wb.cell, (boxed_touch h7 t (h1.notBox h7 (by decide) (by decide) (by decide))).cell, (boxed_touch h7 t (h1.notBox h7 (by decide) (by decide) (by decide))).frozen⟩
            have kD := do_any (h1.up (Up.drew W)) ⟨kind, on, qk, val⟩ hkq HX4.out
            have kE := fun {w' : World} {zs : List (KV Int)} (h : Half w' tp up lim zs xs S) => done_any h ⟨kind, on, qk, val⟩ hkq HX4.out
            generalize chg lim ⟨kind, on, qk, val⟩ xs = zs at kD kE FIN
            clear h1 h2 h3 h4 h7 HST HX4 hkq
            have sof : ∀ {w' : World}, Touch W w' S → w'.cell? ⟨TB, 0, none⟩ = some (.pointer tp) ∧ w'.cell? ⟨UB, 0, none⟩ = some (.pointer up) ∧ w'.cell? ⟨WB, 0, none⟩ = some (.slice (some ⟨gb, oo, none⟩) M wc) ∧ w'.cell? ⟨WN + 1, 0, none⟩ = some (.int .i64 (pre.length : Int)) ∧ w'.cell? ⟨gb, oo + pre.length * 4, none⟩ = some (.int .i64 kind) ∧ w'.cell? ⟨gb, oo + pre.length * 4 + 1, none⟩ = some (.int .i64 on) ∧ w'.cell? ⟨gb, oo + pre.length * 4 + 2, none⟩ = some (.string qk) ∧ w'.cell? ⟨gb, oo + pre.length * 4 + 3, none⟩ = some (.int .i64 val) := fun t => by
              obtain ⟨u, a1, a2, a3, a4, _⟩ := UPP.out t
              exact ⟨a1, a2, a3, a4, HO.out u⟩
            simp only [tm12, List.setIfInBounds_toArray, List.set_cons_succ, List.set_cons_zero]
            obtain ⟨s1, s2, s3, s4, s5, s6, s7, s8⟩ := sof (Touch.of_up (Up.drew W) S)
            gi_wp2_with fail
            have hmx : Try.prog.follows .mixedOrders = true := by kernel_rfl
            refine cut30 (.pointer tp) (.slice (some ⟨gb, oo, none⟩) M wc) (.int .i64 (pre.length : Int)) (.pointer (some ⟨gb, oo + pre.length * 4, none⟩)) (OpV ⟨kind, on, qk, val⟩) (.tuple #[]) (fun W' => Half W' tp up lim zs xs S ∧ Touch W W' S) ?r30 ?k30
            case r30 =>
              clear kE FIN sof UPP HO
              gi_region_with_o (gi_at_call 24; refine (CallsIn.inRound l (callsIn_wide.2 kD)).mono ?_; rintro e wa ⟨rfl, ha, ta⟩)
              all_goals
                refine ⟨rfl, ?_, ha, (Touch.of_up (Up.drew W) S).trans ta (fun k hk => .inl hk)⟩
                simp only [List.setIfInBounds_toArray, List.set_cons_succ, List.set_cons_zero]
            case k30 =>
              rintro wa ⟨ha, ta⟩
              clear kD s1 s2 s3 s4 s5 s6 s7 s8
              have tb := ta.trans (Touch.of_up (Up.drew wa) S) (fun k hk => .inl hk)
              have kF := kE (ha.up (Up.drew wa))
              obtain ⟨s1, s2, s3, s4, s5, s6, s7, s8⟩ := sof tb
              clear kE ha
              simp only [List.setIfInBounds_toArray, List.set_cons_succ, List.set_cons_zero]
              gi_wp2_with fail
              refine cut31 (.pointer up) (.slice (some ⟨gb, oo, none⟩) M wc) (.int .i64 (pre.length : Int)) (.pointer (some ⟨gb, oo + pre.length * 4, none⟩)) (OpV ⟨kind, on, qk, val⟩) (.tuple #[]) (fun W' => HDone wa.drew tp up lim zs zs S W') ?r31 ?k31
              case r31 =>
                clear FIN sof UPP HO
                gi_region_with_o (gi_at_call 25; refine (CallsIn.inRound l (callsIn_wide.2 kF)).mono ?_; rintro e wb ⟨rfl, hb⟩)
                all_goals
                  refine ⟨rfl, ?_, hb⟩
                  simp only [List.setIfInBounds_toArray, List.set_cons_succ, List.set_cons_zero]
              case k31 =>
                rintro wb hb
                clear kF s1 s2 s3 s4 s5 s6 s7 s8
                obtain ⟨_, _, _, _, s4, fN⟩ := UPP.out (touch_done tb hb)
                have HF : Hid _ := FIN.out tb hb
                clear sof UPP HO FIN hb tb ta
                simp only [List.setIfInBounds_toArray, List.set_cons_succ, List.set_cons_zero]
                gi_wp2
                simp only [ownPostK]
                exact HF.out
          · have hmi : ¬ ((pre.length : Int) < (M : Int)) := by omega
            have FIN := HST.out h1 (Touch.refl W S) (fun k hk => .inl hk) (by omega)
            have HF : Hid _ := FIN
            have fN := h7.frozen
            clear h1 h2 h3 h4 h7 HST HX4 FIN
            simp only [tm12, List.setIfInBounds_toArray, List.set_cons_succ, List.set_cons_zero]
            gi_wp2
            simp only [ownPostK]
            exact HF.out
        · have hxx : Hid (¬ (pre ++ [(xk, xv)] <+: ZS)) := hst.2 hx
          have hd : (zk.toList == xk.toList) = false ∨ zk = xk ∧ (zv == xv) = false := by
            by_cases e : zk = xk
            · right; refine ⟨e, ?_⟩
              simp only [Prod.mk.injEq, not_and] at hx
              simpa using hx e
            · left; exact beq_ne e
          clear hx hst
          rcases hd with hd | ⟨rfl, hd⟩
          · clear h1 h2 h3 h4 h5 h6 h7 h8 h9 h10 h11 h12 hzk hzv hzz
            simp only [tm12, List.setIfInBounds_toArray, List.set_cons_succ, List.set_cons_zero]
            gi_wp2
            simp only [ownPostK]
            refine ⟨?_, hxx.out⟩
            exact KeepsOthers.setCell _ _ _
          · clear h1 h2 h3 h4 h5 h6 h7 h8 h9 h10 h11 h12 hzk hzv hzz
            simp only [tm12, List.setIfInBounds_toArray, List.set_cons_succ, List.set_cons_zero]
            gi_wp2
            simp only [ownPostK]
            refine ⟨?_, hxx.out⟩
            exact KeepsOthers.setCell _ _ _
      case done =>
        intro D W4 hD hI hK
        obtain ⟨xs, S, hH, hS, hB, hU, hxl, b6, b7, _, _, _, _, _⟩ := hI
        have c6 := b6.cell
        have c7 := b7.cell
        have hW0 : Hid (w.heap.size ≤ D) := by show w.heap.size ≤ D; omega
        have HX2 : Hid (xs.length ≤ 2097152) := by have := HXL.out; show xs.length ≤ 2097152; omega
        clear h0 HS hD hBw HXL hBx hB1 hwl hxl
        go_wp2_with fail
        clear b6 b7 c6 c7
        have hxl : True := trivial
        have hc := hB.ub.cell
        rw [rounds_succ]
        go_wp2_with fail
        have hx4 : xs.length ≤ 4000000000000 := by have := HX2.out; omega
        refine (rFromH hH key HK.out hx4).mono ?_
        rintro e W1 ⟨wantv, rfl, hw1, hob, u1⟩
        obtain ⟨wao, wcap, rfl⟩ := hw1.slice
        have s1 := Boxed.new W1 39 (.slice wao (fromL key xs).length wcap)
        have s2 := Boxed.new (W1.alloc (.cells #[.slice wao (fromL key xs).length wcap] 39)) 3 (.int .i64 0)
        go_wp2_with fail
        refine (wpIn_wide (n := 5)).1 ?_
        -- the going through
        have u3 : Up W4 ((W1.alloc (.cells #[.slice wao (fromL key xs).length wcap] 39)).alloc (.cells #[.int .i64 0] 3)) := (u1.trans (Up.alloc _ _)).trans (Up.alloc _ _)
        have hwl : fromL key xs ≠ [] → ∀ k ∈ ob (.slice wao (fromL key xs).length wcap), k < W1.heap.size := fun hz k hk => by
          obtain ⟨ao', cap', he, _, hx⟩ := hw1
          simp only [Value.slice.injEq, true_and] at he
          obtain ⟨rfl, rfl⟩ := he
          obtain ⟨g, o, rfl, h1⟩ := hx hz
          simp [ob, Value.ownBlock] at hk
          obtain ⟨_, rfl⟩ := hk
          exact World.block_lt_of_cell? W1 _ (h1 0 (List.length_pos_iff.2 hz)).1
        rw [World.size_alloc] at s2
        have h0 : RgI w RB WB TB UB CA CK (.slice wo M wc) tp up key lim W1.heap.size (W1.heap.size + 1) (((W1.alloc (.cells #[.slice wao (fromL key xs).length wcap] 39)).alloc (.cells #[.int .i64 0] 3)).heap.size) (.slice wao (fromL key xs).length wcap) (fromL key xs) xs.length [D] [] ((W1.alloc (.cells #[.slice wao (fromL key xs).length wcap] 39)).alloc (.cells #[.int .i64 0] 3)) :=
          ⟨xs, S, hH.up u3, hS, hB.upp u3, hU.trans u3, by simp, s1.alloc _, s2, (hw1.up (Up.alloc _ _)).up (Up.alloc _ _), fun hz k hk e => by have := hob k hk; have := hH.lt k e; omega, Nat.le_refl _, (fun D' hD' => by simp at hD'; rw [hD']; exact (u3.block D (Array.getElem?_eq_some_iff.1 hK).1).trans hK), List.nil_prefix⟩
        have HS := stopsP 4 CA CK key ((hH.up u3).tabP) (hB.upp u3).ca.cell (hB.upp u3).ck.cell
        have hB1 : W1.heap.size + 2 ≤ ((W1.alloc (.cells #[.slice wao (fromL key xs).length wcap] 39)).alloc (.cells #[.int .i64 0] 3)).heap.size := by simp only [World.size_alloc]; omega
        have hBx : Hid (w.heap.size ≤ W1.heap.size ∧ RB < W1.heap.size ∧ WB < W1.heap.size ∧ TB < W1.heap.size ∧ UB < W1.heap.size ∧ CA < W1.heap.size ∧ CK < W1.heap.size) := by
          have a0 := hU.size; have a1 := u1.size; have b1 := hB.rb.lt; have b2 := hB.wb.lt; have b3 := hB.tb.lt; have b4 := hB.ub.lt; have b5 := hB.ca.lt; have b6 := hB.ck.lt
          exact ⟨by omega, by omega, by omega, by omega, by omega, by omega, by omega⟩
        have hD1 : D < ((W1.alloc (.cells #[.slice wao (fromL key xs).length wcap] 39)).alloc (.cells #[.int .i64 0] 3)).heap.size := by have h0 := (Array.getElem?_eq_some_iff.1 hK).1; have h1 := u3.size; omega
        have hzl : (fromL key xs).length ≤ xs.length := List.length_filter_le ..
        have HXL : Hid (xs.length ≤ 2097152 ∧ (fromL key xs).length ≤ xs.length) := ⟨by have := HX2.out; omega, hzl⟩
        generalize (W1.alloc (.cells #[.slice wao (fromL key xs).length wcap] 39)).alloc (.cells #[.int .i64 0] 3) = W3 at h0 HS hB1 u3 hD1 ⊢
        generalize W1.heap.size = WN at h0 hBx hB1 hwl ⊢
        have hBw : w.heap.size ≤ W3.heap.size := by have := hBx.out; omega
        generalize fromL key xs = ZS at h0 HS HXL hwl ⊢
        generalize xs.length = L0 at h0 HXL
        clear s1 s2 hw1 hob u1 u3 hH hS hB hU hxl hx4 hzl hc
        refine range12 (gf := 51) (lb := #[.pointer (some ⟨CA, 0, none⟩), .pointer (some ⟨CK, 0, none⟩)]) rfl (enters_of Try.func51 (by kernel_rfl) rfl)
          HS (RgI w RB WB TB UB CA CK (.slice wo M wc) tp up key lim WN (WN + 1) W3.heap.size (.slice wao ZS.length wcap) ZS L0 [D])
          (RgI_own hBw (fun hz k hk => by have := hwl hz k hk; omega) (by first | (intro D hD; cases hD; done) | (intro D hD; simp at hD; subst hD; exact hD1))) h0 ?assign ?body ?done
        case assign =>
          intro l x W K hK
          gi_wp2
          exact hK
        case body =>
          intro l pre x W hI hlen
          obtain ⟨xs, S, h1, h2, h3, h4, h5, h6, h7, h8, h9, h10, h11, h12⟩ := hI
          have hst := pre_step (x := x) h12 hlen
          obtain ⟨g, o, rfl, hz1, hz2⟩ : ∃ g o, wao = some ⟨g, o, none⟩ ∧ W.cell? ⟨g, o + pre.length * 2, none⟩ = some (.string (ZS[pre.length]'hlen).1) ∧ W.cell? ⟨g, o + pre.length * 2 + 1, none⟩ = some (.int .i64 (ZS[pre.length]'hlen).2) := by
            obtain ⟨_, _, he, _, hx⟩ := h8
            simp only [Value.slice.injEq, true_and] at he
            obtain ⟨rfl, rfl⟩ := he
            obtain ⟨g, o, rfl, h1⟩ := hx (by rintro rfl; simp at hlen)
            exact ⟨g, o, rfl, h1 _ hlen⟩
          obtain ⟨xk, xv⟩ := x
          obtain ⟨zk, hzk⟩ : ∃ zk, (ZS[pre.length]'hlen).1 = zk := ⟨_, rfl⟩
          obtain ⟨zv, hzv⟩ : ∃ zv, (ZS[pre.length]'hlen).2 = zv := ⟨_, rfl⟩
          have hzz : ZS[pre.length]'hlen = (zk, zv) := Prod.ext hzk hzv
          rw [hzk] at hz1
          rw [hzv] at hz2
          rw [hzz] at hst
          have hnl : (pre.length : Int) < (ZS.length : Int) := by omega
          have hng : ¬ ((pre.length : Int) ≥ (ZS.length : Int)) := by omega
          have cN := h7.cell
          have cW := h6.cell
          have cwb := h3.wb.cell
          have cR := h3.rb.cell
          have fR := h3.rb.frozen
          by_cases hx : (zk, zv) = (xk, xv)
          · simp only [Prod.mk.injEq] at hx
            obtain ⟨rfl, rfl⟩ := hx
            have hpp := hst.1 rfl
            have hbx := hBx.out
            have HST : Hid (∀ {W1 : World} {xs1 : List (KV Int)} {S1 : List Nat}, Half W1 tp up lim xs1 xs1 S1 → Touch W W1 S → (∀ k ∈ S1, k ∈ S ∨ W.heap.size ≤ k) → xs1.length ≤ xs.length + 1 →
                KeepsOthers W (W1.setCell ⟨WN + 1, 0, none⟩ (.int .i64 ((pre.length + 1 : Nat) : Int))) ∧ StI W (W1.setCell ⟨WN + 1, 0, none⟩ (.int .i64 ((pre.length + 1 : Nat) : Int))) ∧ RgI w RB WB TB UB CA CK (.slice wo M wc) tp up key lim WN (WN + 1) W3.heap.size (.slice (some ⟨g, o, none⟩) ZS.length wcap) ZS L0 [D] (pre ++ [(zk, zv)]) (W1.setCell ⟨WN + 1, 0, none⟩ (.int .i64 ((pre.length + 1 : Nat) : Int)))) := fun H t hs hl =>
              RgI_step h1 h2 h3 h4 h5 h6 h7 h8 h9 h10 h11 (fun hz hk => by have := hwl hz _ hk; omega) (by omega) (fun hz k hk => by have := hwl hz k hk; omega) (by omega) ⟨by omega, by omega, by omega, by omega, by omega, by omega⟩ H t hs hl hpp
            have hw5 : IntKind.i64.wrap ((pre.length : Int) + 1) = ((pre.length + 1 : Nat) : Int) := by have := HXL.out; rw [IntKind.wrap_i64]; omega
            have HX4 : Hid (xs.length ≤ 4000000000000) := by have := HXL.out; show xs.length ≤ 4000000000000; omega
            clear h5 h6 h8 h9 h10 h11 h12 hzk hzv hzz hst hpp hbx
            by_cases hm : pre.length < M
            · obtain ⟨gb, oo, rfl, hop, hkq⟩ := HW.out pre.length (by rw [HM.out]; exact hm) h4
              have HO : Hid (∀ {w' : World}, Up w w' → OpTAt w' gb (oo + pre.length * 4) (ws[pre.length]'(by rw [HM.out]; exact hm))) := fun u => by
                obtain ⟨b', o', he, hc, _⟩ := HW.out pre.length (by rw [HM.out]; exact hm) u
                simp only [Option.some.injEq, Addr.mk.injEq, and_true] at he
                obtain ⟨rfl, rfl⟩ := he
                exact hc
              obtain ⟨q, hq⟩ : ∃ q, (ws[pre.length]'(by rw [HM.out]; exact hm)) = q := ⟨_, rfl⟩
              rw [hq] at hkq HO
              clear hq hop
              obtain ⟨kind, on, qk, val⟩ := q
              have hmi : (pre.length : Int) < (M : Int) := by omega
              have FIN : Hid (∀ {wa wb : World}, Touch W wa S → HDone wa tp up lim (chg lim ⟨kind, on, qk, val⟩ xs) (chg lim ⟨kind, on, qk, val⟩ xs) S wb → KeepsOthers W (wb.setCell ⟨WN + 1, 0, none⟩ (.int .i64 ((pre.length + 1 : Nat) : Int))) ∧ StI W (wb.setCell ⟨WN + 1, 0, none⟩ (.int .i64 ((pre.length + 1 : Nat) : Int))) ∧ RgI w RB WB TB UB CA CK (.slice (some ⟨gb, oo, none⟩) M wc) tp up key lim WN (WN + 1) W3.heap.size (.slice (some ⟨g, o, none⟩) ZS.length wcap) ZS L0 [D] (pre ++ [(zk, zv)]) (wb.setCell ⟨WN + 1, 0, none⟩ (.int .i64 ((pre.length + 1 : Nat) : Int)))) := fun ta ⟨S', a1, a2, a3⟩ =>
                HST.out a1 (ta.trans a2 (fun k hk => .inl hk)) (fun k hk => (a3 k hk).elim .inl (fun e => .inr (Nat.le_trans ta.size e))) (len_chg h1.srt)
              have UPP : Hid (∀ {w' : World}, Touch W w' S → Up w w' ∧ w'.cell? ⟨TB, 0, none⟩ = some (.pointer tp) ∧ w'.cell? ⟨UB, 0, none⟩ = some (.pointer up) ∧ w'.cell? ⟨WB, 0, none⟩ = some (.slice (some ⟨gb, oo, none⟩) M wc) ∧ w'.cell? ⟨WN + 1, 0, none⟩ = some (.int .i64 (pre.length : Int)) ∧ w'.frozen? ⟨WN + 1, 0, none⟩ = false) := fun t => ⟨((Touch.of_up h4 []).trans t (fun k hk => .inr (h2 k hk))).up (by simp), (h3.touch h1 t).tb.cell, (h3.touch h1 t).ub.cell, (h3.touch h1 t).wb.cell, (boxed_touch h7 t (h1.notBox h7 (by decide) (by decide) (by decide))).cell, (boxed_touch h7 t (h1.notBox h7 (by decide) (by decide) (by decide))).frozen⟩
              have kD := do_any (h1.up (Up.drew W)) ⟨kind, on, qk, val⟩ hkq HX4.out
              have kE := fun {w' : World} {zs : List (KV Int)} (h : Half w' tp up lim zs xs S) => done_any h ⟨kind, on, qk, val⟩ hkq HX4.out
              generalize chg lim ⟨kind, on, qk, val⟩ xs = zs at kD kE FIN
              clear h1 h2 h3 h4 h7 HST HX4 hkq
              have sof : ∀ {w' : World}, Touch W w' S → w'.cell? ⟨TB, 0, none⟩ = some (.pointer tp) ∧ w'.cell? ⟨UB, 0, none⟩ = some (.pointer up) ∧ w'.cell? ⟨WB, 0, none⟩ = some (.slice (some ⟨gb, oo, none⟩) M wc) ∧ w'.cell? ⟨WN + 1, 0, none⟩ = some (.int .i64 (pre.length : Int)) ∧ w'.cell? ⟨gb, oo + pre.length * 4, none⟩ = some (.int .i64 kind) ∧ w'.cell? ⟨gb, oo + pre.length * 4 + 1, none⟩ = some (.int .i64 on) ∧ w'.cell? ⟨gb, oo + pre.length * 4 + 2, none⟩ = some (.string qk) ∧ w'.cell? ⟨gb, oo + pre.length * 4 + 3, none⟩ = some (.int .i64 val) := fun t => by
                obtain ⟨u, a1, a2, a3, a4, _⟩ := UPP.out t
                exact ⟨a1, a2, a3, a4, HO.out u⟩
              simp only [tm12, List.setIfInBounds_toArray, List.set_cons_succ, List.set_cons_zero]
              obtain ⟨s1, s2, s3, s4, s5, s6, s7, s8⟩ := sof (Touch.of_up (Up.drew W) S)
              gi_wp2_with fail
              have hmx : Try.prog.follows .mixedOrders = true := by kernel_rfl
              refine cut30 (.pointer tp) (.slice (some ⟨gb, oo, none⟩) M wc) (.int .i64 (pre.length : Int)) (.pointer (some ⟨gb, oo + pre.length * 4, none⟩)) (OpV ⟨kind, on, qk, val⟩) (.tuple #[]) (fun W' => Half W' tp up lim zs xs S ∧ Touch W W' S) ?r30 ?k30
              case r30 =>
                clear kE FIN sof UPP HO
                gi_region_with_o (gi_at_call 24; refine (CallsIn.inRound l (callsIn_wide.2 kD)).mono ?_; rintro e wa ⟨rfl, ha, ta⟩)
                all_goals
                  refine ⟨rfl, ?_, ha, (Touch.of_up (Up.drew W) S).trans ta (fun k hk => .inl hk)⟩
                  simp only [List.setIfInBounds_toArray, List.set_cons_succ, List.set_cons_zero]
              case k30 =>
                rintro wa ⟨ha, ta⟩
                clear kD s1 s2 s3 s4 s5 s6 s7 s8
                have tb := ta.trans (Touch.of_up (Up.drew wa) S) (fun k hk => .inl hk)
                have kF := kE (ha.up (Up.drew wa))
                obtain ⟨s1, s2, s3, s4, s5, s6, s7, s8⟩ := sof tb
                clear kE ha
                simp only [List.setIfInBounds_toArray, List.set_cons_succ, List.set_cons_zero]
                gi_wp2_with fail
                refine cut31 (.pointer up) (.slice (some ⟨gb, oo, none⟩) M wc) (.int .i64 (pre.length : Int)) (.pointer (some ⟨gb, oo + pre.length * 4, none⟩)) (OpV ⟨kind, on, qk, val⟩) (.tuple #[]) (fun W' => HDone wa.drew tp up lim zs zs S W') ?r31 ?k31
                case r31 =>
                  clear FIN sof UPP HO
                  gi_region_with_o (gi_at_call 25; refine (CallsIn.inRound l (callsIn_wide.2 kF)).mono ?_; rintro e wb ⟨rfl, hb⟩)
                  all_goals
                    refine ⟨rfl, ?_, hb⟩
                    simp only [List.setIfInBounds_toArray, List.set_cons_succ, List.set_cons_zero]
                case k31 =>
                  rintro wb hb
                  clear kF s1 s2 s3 s4 s5 s6 s7 s8
                  obtain ⟨_, _, _, _, s4, fN⟩ := UPP.out (touch_done tb hb)
                  have HF : Hid _ := FIN.out tb hb
                  clear sof UPP HO FIN hb tb ta
                  simp only [List.setIfInBounds_toArray, List.set_cons_succ, List.set_cons_zero]
                  gi_wp2
                  simp only [ownPostK]
                  exact HF.out
            · have hmi : ¬ ((pre.length : Int) < (M : Int)) := by omega
              have FIN := HST.out h1 (Touch.refl W S) (fun k hk => .inl hk) (by omega)
              have HF : Hid _ := FIN
              have fN := h7.frozen
              clear h1 h2 h3 h4 h7 HST HX4 FIN
              simp only [tm12, List.setIfInBounds_toArray, List.set_cons_succ, List.set_cons_zero]
              gi_wp2
              simp only [ownPostK]
              exact HF.out
          · have hxx : Hid (¬ (pre ++ [(xk, xv)] <+: ZS)) := hst.2 hx
            have hd : (zk.toList == xk.toList) = false ∨ zk = xk ∧ (zv == xv) = false := by
              by_cases e : zk = xk
              · right; refine ⟨e, ?_⟩
                simp only [Prod.mk.injEq, not_and] at hx
                simpa using hx e
              · left; exact beq_ne e
            clear hx hst
            rcases hd with hd | ⟨rfl, hd⟩
            · clear h1 h2 h3 h4 h5 h6 h7 h8 h9 h10 h11 h12 hzk hzv hzz
              simp only [tm12, List.setIfInBounds_toArray, List.set_cons_succ, List.set_cons_zero]
              gi_wp2
              simp only [ownPostK]
              refine ⟨?_, hxx.out⟩
              exact KeepsOthers.setCell _ _ _
            · clear h1 h2 h3 h4 h5 h6 h7 h8 h9 h10 h11 h12 hzk hzv hzz
              simp only [tm12, List.setIfInBounds_toArray, List.set_cons_succ, List.set_cons_zero]
              gi_wp2
              simp only [ownPostK]
              refine ⟨?_, hxx.out⟩
              exact KeepsOthers.setCell _ _ _
        case done =>
          intro D2 W5 hD2 hI hK2
          obtain ⟨xs, S, hH, hS, hB, hU, hxl, b6, b7, _, _, _, hDs, _⟩ := hI
          have hK1 := hDs D (by simp)
          have c6 := b6.cell
          have c7 := b7.cell
          have HX3 : Hid (xs.length ≤ 4194304) := by have := HXL.out; show xs.length ≤ 4194304; omega
          clear h0 HS hBw HXL hBx hB1 hwl hxl hDs
          go_wp2_with fail
          clear b6 b7 c6 c7
          have hDD : D < D2 := by omega
          have hWD : w.heap.size ≤ D := by have := hW0.out; omega
          have kR := fun {w' : World} (u : Up W5 w') => rAllH (hH.up u) (by have := HX3.out; omega)
          have kT := fun {w' : World} {vw : Value} (u : Up W5 w') (hv : SlIt w' vw xs) => told_any tp true ⟨#[]⟩ (-1) xs vw w' (hH.up u).tabP (by have := HX3.out; omega) hv
          have sof : ∀ {w' : World}, Up W5 w' → w'.cell? ⟨TB, 0, none⟩ = some (.pointer tp) ∧ w'.cell? ⟨UB, 0, none⟩ = some (.pointer up) ∧ (∃ z, w'.cell? ⟨RB, 0, none⟩ = some z) ∧ w'.frozen? ⟨RB, 0, none⟩ = false := fun u => ⟨(hB.upp u).tb.cell, (hB.upp u).ub.cell, ⟨_, (hB.upp u).rb.cell⟩, (hB.upp u).rb.frozen⟩
          have FIN : Hid (∀ {X : World}, Up W5 X → Up w X ∧ Boxed X RB 4 (.bool false) ∧ X.heap[D]? = some (.deferred (some [])) ∧ X.heap[D2]? = some (.deferred (some []))) := fun u => ⟨hU.trans u, (hB.upp u).rb, (u.block D (Array.getElem?_eq_some_iff.1 hK1).1).trans hK1, (u.block D2 (Array.getElem?_eq_some_iff.1 hK2).1).trans hK2⟩
          clear hH hS hB hU hK hK1 hK2 hD2 hD1
          rw [rounds_succ]
          go_wp2_with fail
          obtain ⟨s1, s2, ⟨z, s3⟩, s4⟩ := sof (Up.drew W5)
          go_region_with (first
            | (go_at_call 21; refine (kR (Up.drew W5)).mono ?_; rintro e wa ⟨va, rfl, ha, _, ua⟩; have ub := (Up.drew W5).trans ua; clear s1 s2 s3 s4; obtain ⟨s1, s2, ⟨z, s3⟩, s4⟩ := sof ub)
            | (go_at_call 20; refine (kT ub ha).mono ?_; rintro e wb ⟨rfl, uc⟩; have ud := ub.trans uc; clear s1 s2 s3 s4; obtain ⟨s1, s2, ⟨z, s3⟩, s4⟩ := sof ud))
          all_goals
            go_wp2
            obtain ⟨f1, f2, f3, f4⟩ := FIN.out ud
            exact end12 f1 f2 f3 f4 hDD hRB0 hWD (fun W hW => by simp [results, go_sem, hW])
end Go.Proofs.Ytldmiieepikjnaa
