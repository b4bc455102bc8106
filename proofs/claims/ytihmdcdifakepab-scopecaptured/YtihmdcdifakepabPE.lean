/- ScopeCaptured: the walk of every tree. -/
import Derived.Test.YtihmdcdifakepabPD
import Derived.Test.YtihmdcdifakepabYM
namespace Go.Proofs.Ytihmdcdifakepab.Rv
open Go.RowKit Go.Proofs.Ytihmdcdifakepab.Sc Go.Proofs.Ytihmdcdifakepab.Rz
set_option linter.unusedVariables false

theorem captured_walk (n : Nat) (t : Tr n) (w : World) (hok : okT n w t) : Calls Try.prog 3 #[valT n t] w fun e w' => e = .returned (.bool true) ∧ Below w.heap.size w w' := by
  cases hr : rootP n t with
  | false =>
    cases n with
    | zero => exact nomatch (t : Empty)
    | succ n =>
      obtain ⟨x, sl⟩ := t
      exact captured_bad w x _ _ _ (x.pl, 70) (by simp) (fun w1 h1 => resolve_wrong w1 n x sl (okT_kept hok (Sc.cells_below h1)) hr)
  | true =>
    obtain ⟨u, hv, _, hok2, hr2, hsz⟩ := cut_root w n t hok hr
    rw [← hv]
    obtain ⟨x, sl⟩ := u
    cases hR : resolveP bi 300 ((x, sl) : Nd × Sli (Tr 299)) with
    | error er =>
      refine captured_bad w x _ _ _ er (cod_resolve bi 300 _ er hR) (fun w1 h1 => ?_)
      have := resolve_right w1 299 x sl (okT_kept hok2 (Sc.cells_below h1)) hr2 hsz (by omega)
      rw [hR] at this
      exact this
    | ok s => exact captured_ok w 299 (by omega) x sl s hok2 hr2 hR
end Go.Proofs.Ytihmdcdifakepab.Rv
