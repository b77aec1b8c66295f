/- state: what change and its callers know of the state that they change (laid by genChg.py). Own work. -/
import Derived.Test.YtdddfapelencoaaDoorStRaise
import Derived.Test.YtdddfapelencoaaDoorStDel
import Derived.Test.YtdddfapelencoaaDoorStIns
import Derived.Test.YtdddfapelencoaaDoorLkG
import Derived.BigQuiet
import Derived.Deep.QuietTactic
set_option linter.unusedVariables false
set_option linter.unusedSimpArgs false
namespace Go.Proofs.YtdddfapelencoaaDoor
open Go Go.RowKit

/-- What holds while change runs: the state's box, the record's box; only the row was touched. -/
structure Sg (sb B l f : Nat) (v : Value) (rs : Array Value) (w u : World) : Prop where
  st : Box u sb #[V l, V f, v]
  rc : Box u B rs
  tt : Touch w u (ob v)
theorem Sg.up {sb B l f : Nat} {v : Value} {rs : Array Value} {w u u' : World} (h : Sg sb B l f v rs w u) (k : Up u u') : Sg sb B l f v rs w u' := ⟨h.st.up k, h.rc.up k, h.tt.trans (Touch.of_up k []) (fun _ hk => by cases hk)⟩
theorem Sg.touch {sb B l f : Nat} {v : Value} {rs : Array Value} {w u u' : World} (h : Sg sb B l f v rs w u) (k : Touch u u' (ob v)) (h1 : sb ∉ ob v) (h2 : B ∉ ob v) : Sg sb B l f v rs w u' := ⟨Touch.box h.st k h1, Touch.box h.rc k h2, h.tt.trans k (fun _ hk => .inl hk)⟩
/-- The state's box with a new row. -/
theorem Sg.store {sb B l f : Nat} {v v' : Value} {rs : Array Value} {w u : World} (h : Sg sb B l f v rs w u) : Box (u.setCell ⟨sb, 2, none⟩ v') sb #[V l, V f, v'] ∧ Touch w (u.setCell ⟨sb, 2, none⟩ v') (sb :: ob v) :=
  ⟨h.st.set 2 v', (h.tt.mono (S' := sb :: ob v) (fun k hk => .inl (List.mem_cons_of_mem _ hk))).setCell (.inl (by simp)) _ _⟩
end Go.Proofs.YtdddfapelencoaaDoor
