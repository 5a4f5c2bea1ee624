/- Spans: Cut, over rows as values. -/
import Derived.Test.YtocnopgpdlfkjaaSpanE0
namespace Go.Proofs.Ytocnopgpdlfkjaa.Sp
open Go.RowKit Go.Proofs.Ytocnopgpdlfkjaa
set_option linter.unusedVariables false
theorem tells_Cut : Tells2 59 fCut := ⟨rfl, fun x y w => by
  unfold fCut
  cases x <;> cases y <;> (go_enter Try.func59, Try.ntmps59; go_wp2; go_ret; exact ⟨rfl, rfl⟩)⟩

theorem cut_v (u v : Value) (a b : List Span) (w : World) (hu : LSpan.Sl w u a) (hv : LSpan.Sl w v b) (hn : a.length + b.length ≤ 100000) :
    Calls Try.prog 41 #[u, v] w (RetOf fCut a b w) := by
  obtain ⟨p, n, c, rfl, h1, h2, h3, h4⟩ := hu
  obtain ⟨q, m, d, rfl, k1, k2, k3, k4⟩ := hv
  have HC := Lib.hid (of_any 59 fCut tells_Cut (enters_of Try.func59 (by kernel_rfl) rfl) p q n c m d a b w h1 k1 h2 k2 h3 k3 h4 k4 (by rw [← h1.1, ← k1.1]; exact hn))
  clear h1 k1 hn h4 k4
  go_enter Try.func41, Try.ntmps41
  go_wp2_with fail
  (with_reducible refine HC.out.mono ?_)
  rintro e w2 ⟨⟨v, rfl, hown⟩, hi, hx⟩
  have HO := Lib.hid hown
  clear hown
  go_wp2
  go_ret
  exact ⟨⟨_, rfl, HO.out⟩, hi, hx⟩

end Go.Proofs.Ytocnopgpdlfkjaa.Sp
