/- Logs: are two entries alike. -/
import Derived.Test.YtppckbhbgohbiaaLogA
import Derived.Test.YtppckbhbgohbiaaRepI
namespace Go.Proofs.Ytppckbhbgohbiaa.Lg
open Go.RowKit Go.Proofs.Ytppckbhbgohbiaa
set_option linter.unusedVariables false

theorem eqB_any (p q : Option Addr) (n c m d : Nat) (l k : List Int) (w : World) (hl : (Lay.int .u8).Row w p n l) (hk : (Lay.int .u8).Row w q m k) :
    Calls Try.prog 34 #[.slice p n c, .slice q m d] w fun e w' => e = .returned (.bool (decide (l = k))) ∧ w = w' := by
  have h1 := conv_bytes hl 32 5 9 Try.underlying32 Try.underlying5 Try.underlying9 c
  have h2 := conv_bytes hk 32 5 9 Try.underlying32 Try.underlying5 Try.underlying9 d
  rw [← strOfNums_beq hl.wf hk.wf]
  clear hl hk
  generalize strOfNums l = s at h1 ⊢
  generalize strOfNums k = t at h2 ⊢
  go_enter Try.func34, Try.ntmps34
  go_wp2
  go_ret
  exact ⟨rfl, rfl⟩

set_option maxHeartbeats 1000000 in
theorem alike_any (x y : Ent) (p q : Option Addr) (n c m d : Nat) (w : World) (hl : (Lay.int .u8).Row w p n x.2) (hk : (Lay.int .u8).Row w q m y.2) :
    Calls Try.prog 27 #[.agg #[.int .i64 x.1, .slice p n c], .agg #[.int .i64 y.1, .slice q m d]] w fun e w' => e = .returned (.bool (decide (x = y))) ∧ Ext w w' := by
  obtain ⟨t, b⟩ := x
  obtain ⟨u, k⟩ := y
  simp only at hl hk ⊢
  by_cases h1 : t = u
  · subst h1
    have he : decide ((t, b) = (t, k)) = decide (b = k) := by simp
    rw [he]
    have HC := Lib.hid (eqB_any p q n c m d b k _ (hl.ext (Ext.trans (Ext.alloc w (.cells #[.int .i64 t, .slice p n c] 34)) (Ext.alloc _ (.cells #[.int .i64 t, .slice q m d] 34)))) (hk.ext (Ext.trans (Ext.alloc w (.cells #[.int .i64 t, .slice p n c] 34)) (Ext.alloc _ (.cells #[.int .i64 t, .slice q m d] 34)))))
    clear he hl hk
    generalize decide (b = k) = B at HC ⊢
    go_enter Try.func27, Try.ntmps27
    go_wp2_with (go_at_call 34; refine HC.out.mono ?_; rintro e w' ⟨rfl, rfl⟩)
    go_ret
    exact ⟨rfl, Ext.trans (Ext.alloc _ _) (Ext.alloc _ _)⟩
  · have he : decide ((t, b) = (u, k)) = false := by simp [h1]
    have hq : (t == u) = false := by simp [h1]
    rw [he]
    clear he hl hk
    go_enter Try.func27, Try.ntmps27
    go_wp2
    go_ret
    exact ⟨rfl, Ext.trans (Ext.alloc _ _) (Ext.alloc _ _)⟩
end Go.Proofs.Ytppckbhbgohbiaa.Lg
