/- table: From and All of a table of ints, and what their iterators yield. Own work. -/
import Derived.Test.YtldmiieepikjnaaTbDelI
import Derived.Test.YtldmiieepikjnaaTbWalk
set_option linter.unusedVariables false
set_option linter.unusedSimpArgs false
namespace Go.Proofs.Ytldmiieepikjnaa
open Go Go.RowKit
attribute [local go_sem] Oper.semAt_some

theorem FromI_any (tp : Option Addr) (k : ByteArray) (w : World) : Calls Try.prog 23 #[.pointer tp, .string k] w fun e w' =>
    e = .returned (.func (.func 51) #[] #[.pointer (some ⟨w.heap.size, 0, none⟩), .pointer (some ⟨w.heap.size + 1, 0, none⟩)]) ∧ w' = (w.alloc (.cells #[.pointer tp] 24)).alloc (.cells #[.string k] 9) := by
  go_enter Try.func23, Try.ntmps23
  go_wp2
  go_ret
  exact ⟨by simp, rfl⟩
theorem AllI_any (tp : Option Addr) (w : World) : Calls Try.prog 62 #[.pointer tp] w fun e w' =>
    e = .returned (.func (.func 51) #[] #[.pointer (some ⟨w.heap.size, 0, none⟩), .pointer (some ⟨w.heap.size + 1, 0, none⟩)]) ∧ w' = (w.alloc (.cells #[.pointer tp] 24)).alloc (.cells #[.string ⟨#[]⟩] 9) := by
  have q := FromI_any tp ⟨#[]⟩ w
  go_enter Try.func62, Try.ntmps62
  go_wp2_with (go_at_call 23; refine q.mono ?_; clear q; rintro e w1 ⟨rfl, rfl⟩)
  go_ret
  exact ⟨rfl, rfl⟩

abbrev encKV (x : KV Int) : Array Value := #[.string x.1, .int .i64 x.2]
/-- The iterator of no table yields nothing. -/
theorem stops_nil (n B1 B2 : Nat) (w : World) (h1 : w.cell? ⟨B1, 0, none⟩ = some (.pointer none)) :
    SeqStopsK Fence.wide n Try.prog 51 #[.pointer (some ⟨B1, 0, none⟩), .pointer (some ⟨B2, 0, none⟩)] encKV StI (fun ys => ys = []) (fun pre => pre <+: []) 0 w := by
  intro l J Jx W hW hJ hJx hY h0
  have c1 : W.cell? ⟨B1, 0, none⟩ = some (.pointer none) := (hW.cell (World.block_lt_of_cell? w _ h1)).trans h1
  refine callsIn_of_wp Try.func51 rfl trivial ?_ rfl
  simp only [Try.ntmps51, List.size_toArray, List.length_cons, List.length_nil, Nat.reduceAdd, Nat.reduceSub, Array.replicate_succ, Array.replicate_zero, List.push_toArray, List.append_toArray, List.nil_append, List.cons_append]
  gi_wp2
  go_end0
  exact ⟨⟨_, rfl⟩, .inl ⟨[], rfl, h0⟩⟩
set_option maxHeartbeats 4000000 in
set_option maxRecDepth 20000 in
/-- The iterator of a table: what the table holds when the going through begins. -/
theorem stops_tab (n B1 B2 b : Nat) (k : ByteArray) (lim : Int) (xs : List (KV Int)) (w : World) (h1 : w.cell? ⟨B1, 0, none⟩ = some (.pointer (some ⟨b, 0, none⟩))) (h2 : w.cell? ⟨B2, 0, none⟩ = some (.string k)) (ht : TabI w b lim xs) :
    SeqStopsK Fence.wide n Try.prog 51 #[.pointer (some ⟨B1, 0, none⟩), .pointer (some ⟨B2, 0, none⟩)] encKV StI (fun ys => ys = fromL k xs) (fun pre => pre <+: fromL k xs) (fromL k xs).length w := by
  intro l J Jx W hW hJ hJx hY h0
  have c1 : W.cell? ⟨B1, 0, none⟩ = some (.pointer (some ⟨b, 0, none⟩)) := (hW.cell (World.block_lt_of_cell? w _ h1)).trans h1
  have c2 : W.cell? ⟨B2, 0, none⟩ = some (.string k) := (hW.cell (World.block_lt_of_cell? w _ h2)).trans h2
  obtain ⟨t, g1, g2, rfl, g4⟩ := ht.up hW
  obtain ⟨_, _, d2, _⟩ := cells3 g1
  have hJd : ∀ pre W', J pre W' → J pre W'.drew := fun pre W' h => hJ pre W' W'.drew none h (grown_drew W') (fun r e => by cases e)
  have q0 : CallsIn Fence.wide (n - 1) Try.prog 52 #[.pointer t.ptr, .string k, .func (.yield l) #[] #[]] W.drew fun e W' =>
      ∃ bb, e = .returned (.bool bb) ∧ Hid ((bb = true ∧ J (fromL k t.els) W') ∨ ∃ q, q <+: fromL k t.els ∧ Jx q W') :=
    (walk_in l (fromL k t.els).length J Jx hJd (fun m pre x W1 hj hl => yieldAny m (hY pre x W1 hj hl)) k t (n - 1) [] W.drew (IsT.up g2 (Up.drew W)) g4 (hJd _ _ h0) (by simp)).mono fun e W' h => h.elim
      (fun ⟨he, hj, _⟩ => ⟨true, he, .inl ⟨rfl, by simpa using hj⟩⟩) (fun ⟨he, q, hq, hx⟩ => ⟨false, he, .inr ⟨q, hq, by simpa using hx⟩⟩)
  clear hY hJ hJx hJd hW h1 h2 ht g1 g2 g4 h0
  refine callsIn_of_wp Try.func51 rfl trivial ?_ rfl
  simp only [Try.ntmps51, List.size_toArray, List.length_cons, List.length_nil, Nat.reduceAdd, Nat.reduceSub, Array.replicate_succ, Array.replicate_zero, List.push_toArray, List.append_toArray, List.nil_append, List.cons_append]
  gi_wp2_with fail
  gi_region_with ((refine ⟨trivial, fun h => (by cases h), ?_⟩); refine q0.mono ?_; rintro e W1 ⟨bb, rfl, hH⟩)
  all_goals (gi_wp2; go_end0; refine ⟨⟨_, rfl⟩, hH.out.elim (fun h => .inl ⟨_, rfl, h.2⟩) (fun ⟨q, hq, hx⟩ => .inr ⟨q, hq, hx⟩)⟩)
end Go.Proofs.Ytldmiieepikjnaa
