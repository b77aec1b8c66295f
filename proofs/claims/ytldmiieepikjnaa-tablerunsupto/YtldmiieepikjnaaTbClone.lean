/- table: a copy of a text. Own work. -/
import Derived.Test.YtldmiieepikjnaaShelf
import Derived.Test.YtldmiieepikjnaaTbTree
namespace Go.Proofs.Ytldmiieepikjnaa
open Go Go.RowKit
theorem sclone_any (s : ByteArray) (w : World) (h : s.size ≤ 281474976710656) : Calls Try.prog 46 #[.string s] w fun e w' => e = .returned (.string s) ∧ Up w w' := by
  have q := Try.stringslite_Clone s w h
  go_enter Try.func46, Try.ntmps46
  go_wp2_with (go_at_call 65; refine q.mono ?_; clear q; rintro e w1 ⟨rfl, u1⟩)
  go_ret
  exact ⟨rfl, u1⟩
end Go.Proofs.Ytldmiieepikjnaa
