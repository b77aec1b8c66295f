/- What row of layer 1's laws answers: nothing, or the bytes of all that was put, one behind the other, and where each one ends. -/
import Derived.Test.YtpjpjoefmnnpmaaDoorPackPuts
import Derived.Test.YtpjpjoefmnnpmaaDoorPackReads
set_option linter.unusedVariables false
namespace Go.Proofs.YtpjpjoefmnnpmaaDoor
open Go Go.RowKit

theorem Tryd.infoInt : (Tryd.prog.info? 3).map (fun i => (i.zero, i.size, i.bytes)) = some (some (.int .i64 0), 1, 8) := by kernel_rfl

abbrev Iv (zs : List Int) : List Value := zs.map fun z => .int .i64 z
/-- An own row of ints. -/
def OwnI (w : World) (base : Nat) (v : Value) (zs : List Int) : Prop := w.ownsRow base 3 1 v zs.length (Iv zs)

theorem OwnI.ints {w : World} {base : Nat} {v : Value} {zs : List Int} (h : OwnI w base v zs) : Ints w v zs := by
  obtain ⟨hl, ⟨rfl, hn⟩ | ⟨g, cap, cur, rfl, hb, hg, hnc, hcm, hcs, ht⟩⟩ := h
  · obtain rfl : zs = [] := List.eq_nil_of_length_eq_zero hn
    exact ⟨none, 0, rfl, fun h => absurd rfl h⟩
  · refine ⟨some ⟨g, 0, none⟩, cap, rfl, fun hbs => ⟨g, 0, rfl, ?_⟩⟩
    intro i hi
    rw [cell_of_row w g _ cur _ (0, 0) hg]
    have : (Iv zs)[i]? = some (.int .i64 zs[i]) := by simp [hi]
    rw [← ht, List.getElem?_take] at this
    split at this
    · simpa using this
    · cases this
theorem OwnI.nil (w : World) (base : Nat) : OwnI w base (.slice none 0 0) [] := World.ownsRow_nil w base _ 1
theorem OwnI.up {w w' : World} {base : Nat} {v : Value} {zs : List Int} (h : OwnI w base v zs) (hu : Up w w') : OwnI w' base v zs := by
  obtain ⟨hl, ⟨rfl, hn⟩ | ⟨g, cap, cur, rfl, hb, hg, hnc, hcm, hcs, ht⟩⟩ := h
  · exact ⟨hl, .inl ⟨rfl, hn⟩⟩
  · refine ⟨hl, .inr ⟨g, cap, cur, rfl, hb, ?_, hnc, hcm, hcs, ht⟩⟩
    have hlt : g < w.heap.size := by
      obtain ⟨h, _⟩ := Array.getElem?_eq_some_iff.1 hg
      exact h
    rw [hu.block g hlt]; exact hg

theorem Sl.grown {base : Nat} {w w' : World} {v : Value} {bs : List UInt8} {row : Option Nat} (h : Sl base w v bs) (hg : w.grownBy w' row) (hr : ∀ k, row = some k → k < base) : Sl base w' v bs := by
  obtain ⟨ao, cap, rfl, hc, hn, hx⟩ := h
  refine ⟨ao, cap, rfl, hc, hn, fun hb => ?_⟩
  obtain ⟨b, o, rfl, hbb, ha⟩ := hx hb
  refine ⟨b, o, rfl, hbb, fun i hi => ?_⟩
  have hlt : b < w.heap.size := World.block_lt_of_cell? w _ (ha i hi)
  have hblk := hg.block b hlt (by intro e; have := hr b e.symm; omega)
  have : w'.cell? ⟨b, o + i, none⟩ = w.cell? ⟨b, o + i, none⟩ := by simp only [World.cell?, hblk]
  rw [this]; exact ha i hi

/-- append(s, z) where s is an own row of ints, and z the one int of a new block. -/
theorem wpList_pushI {ops : Array Oper} {rest : List Oper} {o : Oper} {a : Act} {Q : Exit → Act → World → Prop} (w : World) (hgd : o.guard = none) (s x : Operand)
    (ho : o.op = .call { callee := .builtin .append, args := #[s, x], argTypes := #[30, 30] }) (base : Nat) (v : Value) (zs : List Int) (hs : a.eval s = v) (q : Int)
    (hx : a.eval x = .slice (some ⟨w.heap.size, 0, none⟩) 1 1) (how : OwnI w base v zs) (hbase : base ≤ w.heap.size) (hl : zs.length ≤ 1000000)
    (hK : ∀ v' w', OwnI w' base v' (zs ++ [q]) → Below base w w' → w.grownBy w' v.ownBlock → (∀ k, v.ownBlock = some k → k < w.heap.size) → wpList Tryd.prog ops Q rest (a.put o.dst v') w') :
    wpList Tryd.prog ops Q (o :: rest) a (w.alloc (.cells #[.int .i64 q] 3)) := by
  obtain ⟨i0, hi, hz0, hz1, hz2⟩ := info_parts Tryd.infoInt
  refine wpList_append_own _ hgd s x 30 ho base 3 i0 (.int .i64 0) 1 8 Tryd.underlying30 hi hz0 hz1 hz2 rfl (by decide) v zs.length (Iv zs) hs (how.alloc _) ⟨w.heap.size, 0, none⟩ 1 1 [.int .i64 q] hx rfl ?_ ?_ ?_ ?_ ?_ ?_
  · intro j u hj
    match j, hj with
    | 0, hj => simp at hj; subst hj; rw [Addr.add_lit, cell_of_row _ _ _ _ _ _ (heap_alloc_new _ _)]; rfl
  · intro u hu; simp at hu; subst hu; rfl
  · unfold maxLen; omega
  · omega
  · simp; omega
  · intro v' w' h1 h2 _
    have hblk : ∀ k, v.ownBlock = some k → base ≤ k ∧ k < w.heap.size := fun k hk => World.ownsRow.lt how k hk
    refine hK v' w' (by simpa [OwnI] using h1) (((Below.refl base w).alloc hbase _).grown h2 (by simp; omega) (fun k hk => (hblk k hk).1)) ?_ (fun k hk => (hblk k hk).2)
    refine ⟨h2.os, h2.tape, h2.output, by have := h2.size; simp at this; omega, fun k hk hne => ?_⟩
    rw [h2.block k (by simp; omega) hne]
    exact ((Up.alloc w _).block k hk)

/-- What the puts put, one behind the other. -/
def catP (ps : List PutD) : List UInt8 := ps.flatMap fun p => enc p.1 p.2.2.1 p.2.2.2
theorem catP_take (ps : List PutD) (k : Nat) (h : k < ps.length) : catP (ps.take (k + 1)) = catP (ps.take k) ++ enc ps[k].1 ps[k].2.2.1 ps[k].2.2.2 := by
  unfold catP
  rw [List.take_succ_eq_append_getElem h, List.flatMap_append]; simp
theorem catP_drop (ps : List PutD) (k : Nat) (h : k < ps.length) : catP (ps.drop k) = enc ps[k].1 ps[k].2.2.1 ps[k].2.2.2 ++ catP (ps.drop (k + 1)) := by
  unfold catP
  rw [List.drop_eq_getElem_cons h, List.flatMap_cons]
theorem catP_split (ps : List PutD) (k : Nat) : catP ps = catP (ps.take k) ++ catP (ps.drop k) := by
  unfold catP
  rw [← List.flatMap_append, List.take_append_drop]

/-- Where each of the first k ends. -/
def endsP (ps : List PutD) (k : Nat) : List Int := (List.range k).map fun i => ((catP (ps.take (i + 1))).length : Int)
theorem endsP_length (ps : List PutD) (k : Nat) : (endsP ps k).length = k := by simp [endsP]
theorem endsP_succ (ps : List PutD) (k : Nat) : endsP ps (k + 1) = endsP ps k ++ [((catP (ps.take (k + 1))).length : Int)] := by
  simp [endsP, List.range_succ]

theorem enc_len (k : Int) (x : Nat) (s : ByteArray) (h : k = 4 → (s.size : Int) ≤ 65535) : (enc k x s).length ≤ 65537 := by
  unfold enc
  split
  · simp [le_length]
  · split
    · simp [le_length]
    · split
      · simp [le_length]
      · split
        · rename_i h4
          have := h h4
          simp only [List.length_append, le_length, Sb_len]; omega
        · have := vnF_length 10 x
          show (vnF 10 x).length ≤ _
          omega

set_option maxHeartbeats 3200000 in
theorem row_any (v : Value) (ps : List PutD) (w : World) (aL : Addr) (hp : PutsIn w v ps) (hlen : ps.length ≤ 140737488351232) (hls : ∀ p ∈ ps, (p.2.2.2.size : Int) ≤ 1048576) (hL : Gl w 3 aL) :
    Calls Tryd.prog 16 #[v] w fun e w' => Up w w' ∧ (e = .returned (.tuple #[.slice none 0 0, .slice none 0 0, .bool false]) ∨
      ∃ vb ve, e = .returned (.tuple #[vb, ve, .bool true]) ∧ Sl 0 w' vb (catP ps) ∧ Ints w' ve (endsP ps ps.length) ∧ ps.length ≤ 1024 ∧ ∀ p ∈ ps, p.1 = 4 → (p.2.2.2.size : Int) ≤ 65535) := by
  obtain ⟨ao, cap, rfl, hpx⟩ := hp
  go_enter Tryd.func16, Tryd.ntmps16
  by_cases hmany : 1024 < ps.length
  · clear hpx hls hL
    go_wp2
    go_ret3
    exact ⟨Up.refl _, .inl rfl⟩
  go_wp2
  go_loopw [7, 8] (fun z i wr => ∃ k : Nat, k ≤ ps.length ∧ i = .int .i64 k ∧ (∃ y : Int, z = .int .i64 y ∧ 0 ≤ y ∧ y ≤ 262144) ∧ w = wr) (fun _ i _ => ps.length - (intOf i).toNat)
  case atStart => exact ⟨0, Nat.zero_le _, rfl, ⟨0, rfl, by omega, by omega⟩, rfl⟩
  case round =>
    obtain ⟨k, hk, rfl, ⟨y, rfl, hy0, hy1⟩, rfl⟩ := hrel
    by_cases hlt : k < ps.length
    · obtain ⟨b, o, rfl, hcell⟩ := hpx (by rintro rfl; simp at hlt)
      have hpa := hcell k hlt
      have hpl := hls _ (List.getElem_mem hlt)
      clear hcell hpx hls
      generalize ps[k]'hlt = p at hpa hpl
      obtain ⟨kk, pb, px, psx⟩ := p
      obtain ⟨vB, h0, h1, h2, h3, h4, h5⟩ := hpa
      simp only at h0 h1 h2 h3 h4 hpl
      clear h1 h2 h4 h5
      have hps0 : (0 : Int) ≤ (psx.size : Int) := by omega
      by_cases hk4 : kk = 4
      · subst hk4
        by_cases hbig : 262144 < y + 10 + (psx.size : Int)
        · go_wp2
          go_ret3
          exact ⟨Up.refl _, .inl rfl⟩
        · go_wp2
          go_roundw
          case rel => exact ⟨k + 1, by omega, by go_num, ⟨_, rfl, by omega, by omega⟩, trivial⟩
          case measure => simp [intOf]; omega
      · by_cases hbig : 262144 < y + 10
        · go_wp2
          go_ret3
          exact ⟨Up.refl _, .inl rfl⟩
        · go_wp2
          go_roundw
          case rel => exact ⟨k + 1, by omega, by go_num, ⟨_, rfl, by omega, by omega⟩, trivial⟩
          case measure => simp [intOf]; omega
    · go_wp2
      go_loopw [5, 6, 9] (fun vb ve i wr => ∃ k : Nat, k ≤ ps.length ∧ i = .int .i64 k ∧ Sl 0 wr vb (catP (ps.take k)) ∧ OwnI wr w.heap.size ve (endsP ps k) ∧ Up w wr ∧ Hid (∀ i (h : i < ps.length), i < k → ps[i].1 = 4 → (ps[i].2.2.2.size : Int) ≤ 65535) ∧ (catP (ps.take k)).length ≤ k * 65537) (fun _ _ i _ => ps.length - (intOf i).toNat)
      case atStart => exact ⟨0, Nat.zero_le _, rfl, Sl.nil _ _, OwnI.nil _ _, Up.refl _, (by intro i h hi; omega), by simp [catP]⟩
      case round =>
        obtain ⟨k, hk, rfl, hsl, how, hup, hno, hcl⟩ := hrel
        have hnot : ps.length ≤ 1024 := by omega
        by_cases hlt : k < ps.length
        · obtain ⟨b, o, rfl, hcell⟩ := hpx (by rintro rfl; simp at hlt)
          have hpa := (hcell k hlt).up hup
          have hct := catP_take ps k hlt
          have Hpk : Hid (∃ q, ps[k]'hlt = q) := ⟨_, rfl⟩
          have hstep : ∀ q, ps[k]'hlt = q → (q.1 = 4 → (q.2.2.2.size : Int) ≤ 65535) → ∀ i (h : i < ps.length), i < k + 1 → ps[i].1 = 4 → (ps[i].2.2.2.size : Int) ≤ 65535 := by
            rintro q rfl hq i h hi
            by_cases hik : i = k
            · subst hik; exact hq
            · exact hno.out i h (by omega)
          clear hcell hpx hls
          generalize hq : ps[k]'hlt = p at hpa hct
          have hstep2 := hstep p hq
          clear hstep hq Hpk hno
          obtain ⟨kk, pb, px, psx⟩ := p
          obtain ⟨vB, h0, h1, h2, h3, h4, h5⟩ := hpa
          have H5 : Hid (px < 2 ^ 64) := h5
          simp only at h0 h1 h2 h3 h4 hct hstep2
          have Hct : Hid _ := hct
          have Hst : Hid _ := hstep2
          obtain ⟨bo, bc, rfl, _⟩ := h4
          have hbk := fun g hg => (World.ownsRow.lt how g hg).2
          by_cases hlong : kk = 4 ∧ (65535 : Int) < (psx.size : Int)
          · obtain ⟨rfl, hn⟩ := hlong
            have key := called_long (.slice bo pb.length bc) u5 px psx aL wr (hL.up hup) hn
            clear hct hstep2 h5 hbk
            go_wp2_with fail
            refine key.mono ?_
            rintro e w5 ⟨rfl, hu5⟩
            have hup5 := hup.trans hu5
            clear key h0 h1 h2 h3 hu5 hup how hsl
            go_wp2
            go_ret3
            exact ⟨hup5, .inl rfl⟩
          · have hc4 : kk = 4 → (psx.size : Int) ≤ 65535 := fun h => by have := fun h' => hlong ⟨h, h'⟩; omega
            have Hc4 : Hid _ := hc4
            have hel := enc_len kk px psx hc4
            have key := called_any kk (.slice bo pb.length bc) u5 _ px psx wr hsl (by omega) H5 hc4
            have hcl2 : Hid ((catP (ps.take (k + 1))).length ≤ (k + 1) * 65537) := by
              show _ ≤ _
              rw [hct, List.length_append]; omega
            rw [← hct] at key
            clear hct hstep2 h5 hlong hc4 hel hcl hsl
            go_wp2_with fail
            refine key.mono ?_
            rintro e w5 ⟨v5, rfl, ho5, hu5⟩
            clear key h0 h1 h2 h3
            have hs5 := ho5.sl
            have hs5' := hs5
            obtain ⟨a5, c5, rfl, _⟩ := hs5'
            have how5 := how.up hu5
            have hup5 := hup.trans hu5
            clear ho5 hu5 how
            go_wp2_with (at_builtin; refine wpList_pushI _ rfl (.tmp 57) (.tmp 60) rfl w.heap.size _ _ rfl _ rfl how5 ?hb ?hl ?_)
            case hb => exact hup5.size
            case hl => rw [endsP_length]; omega
            intro v' w' ho' hb' hg' hlt'
            rw [← endsP_succ] at ho'
            have hs6 := (hs5.grown hg' hbk).mono (Nat.zero_le _)
            have hup6 : Up w w' := Below.trans hup5 hb'
            clear hs5 how5 hb' hg' hlt' hbk hup5 hup
            go_wp2
            go_roundw
            case rel => exact ⟨k + 1, by omega, by go_num, hs6, ho', hup6, Hst.out Hc4.out, hcl2.out⟩
            case measure => simp [intOf]; omega
        · obtain rfl : k = ps.length := by omega
          clear hpx hls
          go_wp2
          go_ret3
          refine ⟨hup, .inr ⟨_, _, rfl, ?_, how.ints, hnot, ?_⟩⟩
          · rwa [List.take_of_length_le (Nat.le_refl _)] at hsl
          · intro p hp
            obtain ⟨i, hi, rfl⟩ := List.getElem_of_mem hp
            exact hno.out i hi hi
end Go.Proofs.YtpjpjoefmnnpmaaDoor
