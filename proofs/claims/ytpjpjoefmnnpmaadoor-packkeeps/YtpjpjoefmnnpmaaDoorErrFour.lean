/- The texts of the four errors that the rows of PackBack, PackShort and PackKeeps list, and where they lie. -/
import Derived.Test.YtpjpjoefmnnpmaaDoorErrTab
import Derived.Test.YtpjpjoefmnnpmaaDoorPackBack
set_option linter.unusedVariables false
namespace Go.Proofs.YtpjpjoefmnnpmaaDoor
open Go Go.RowKit Go.ChangeShapes Go.WideShapes

theorem errs_four {l : List (String × DataW Unit)} {W : World} (h : laidMetH Tryd.prog l W)
    (e1 : l = [("turnstile/api.ErrShort", Rows.laid_turnstile_api_ErrShort), ("turnstile/api.ErrForm", Rows.laid_turnstile_api_ErrForm), ("turnstile/api.ErrLong", Rows.laid_turnstile_api_ErrLong), ("turnstile/api.ErrNil", Rows.laid_turnstile_api_ErrNil)]) : ∃ ad, ErrSet fourErrs errTxt W ad := by
  subst e1
  obtain ⟨aS, h1⟩ := gl_of_laid h (n := "turnstile/api.ErrShort") (text := errTxt 0) (by rfl) (by rfl) Tryd.gShort Tryd.gtShort
  obtain ⟨aF, h2⟩ := gl_of_laid h (n := "turnstile/api.ErrForm") (text := errTxt 1) (by rfl) (by rfl) Tryd.gForm Tryd.gtForm
  obtain ⟨aL, h4⟩ := gl_of_laid h (n := "turnstile/api.ErrLong") (text := errTxt 3) (by rfl) (by rfl) Tryd.gLong Tryd.gtLong
  obtain ⟨aN, h3⟩ := gl_of_laid h (n := "turnstile/api.ErrNil") (text := errTxt 2) (by rfl) (by rfl) Tryd.gNil Tryd.gtNil
  refine ⟨fun g => if g = 0 then aS else if g = 1 then aF else if g = 3 then aL else aN, fun g hg => ?_⟩
  simp only [List.mem_cons, List.not_mem_nil, or_false] at hg
  rcases hg with rfl | rfl | rfl | rfl
  · exact h1
  · exact h2
  · exact h4
  · exact h3
end Go.Proofs.YtpjpjoefmnnpmaaDoor
