/- Written bytes: may a piece be so? -/
import Derived.Test.YtcajmgdenhegjaaWrB
namespace Go.Proofs.Ytcajmgdenhegjaa.Wr
open Go.RowKit Go.Proofs.Ytcajmgdenhegjaa
set_option linter.unusedVariables false

def endsB (x : Pc) : Bool := decide (0 ≤ x.f ∧ x.f ≤ 4096 - (x.d.length : Int))
def rightB (x : Pc) : Bool := decide (1 ≤ x.i ∧ 0 < x.d.length ∧ 0 ≤ x.f ∧ x.f ≤ 4096 - (x.d.length : Int))
theorem rightB_iff (x : Pc) : rightB x = true ↔ x.Right := by
  unfold rightB Pc.Right Pc.e
  rw [decide_eq_true_iff]
  constructor
  · rintro ⟨h1, h2, h3, h4⟩; exact ⟨h1, h3, List.length_pos_iff.1 h2, by omega⟩
  · rintro ⟨h1, h2, h3, h4⟩; exact ⟨h1, List.length_pos_iff.2 h3, h2, by omega⟩

theorem ends_any (x : Pc) (p : Option Addr) (n c : Nat) (w : World) (h : TriC w [.int .i64 x.i, .int .i64 x.f, .slice p n c] x.i x.f x.d p n c) :
    Calls Try.prog 31 #[.agg #[.int .i64 x.i, .int .i64 x.f, .slice p n c]] w fun e w' => e = .returned (.bool (endsB x)) ∧ Ext w w' := by
  have hl := h.row.1
  have hn : n ≤ 9223372036854775807 := h.row.2.1
  unfold endsB
  rw [hl]
  clear h hl
  obtain ⟨a, f, d⟩ := x
  simp only
  by_cases h0 : 0 ≤ f
  · by_cases h1 : f ≤ 4096 - (n : Int)
    · have hd : decide (0 ≤ f ∧ f ≤ 4096 - (n : Int)) = true := decide_eq_true ⟨h0, h1⟩
      rw [hd]
      clear hd
      go_enter Try.func31, Try.ntmps31
      go_wp2
      go_ret
      exact ⟨rfl, Ext.alloc _ _⟩
    · have hd : decide (0 ≤ f ∧ f ≤ 4096 - (n : Int)) = false := decide_eq_false (fun h => h1 h.2)
      rw [hd]
      clear hd
      go_enter Try.func31, Try.ntmps31
      go_wp2
      go_ret
      exact ⟨rfl, Ext.alloc _ _⟩
  · have hd : decide (0 ≤ f ∧ f ≤ 4096 - (n : Int)) = false := decide_eq_false (fun h => h0 h.1)
    rw [hd]
    clear hd
    go_enter Try.func31, Try.ntmps31
    go_wp2
    go_ret
    exact ⟨rfl, Ext.alloc _ _⟩

theorem end_any (x : Pc) (p : Option Addr) (n c : Nat) (w : World) (h : TriC w [.int .i64 x.i, .int .i64 x.f, .slice p n c] x.i x.f x.d p n c) (h0 : -9223372036854775808 ≤ x.f) (hh : x.e ≤ 9223372036854775807) :
    Calls Try.prog 38 #[.agg #[.int .i64 x.i, .int .i64 x.f, .slice p n c]] w fun e w' => e = .returned (.int .i64 x.e) ∧ Ext w w' := by
  have hl := h.row.1
  unfold Pc.e at *
  rw [hl] at hh ⊢
  clear h hl
  obtain ⟨a, f, d⟩ := x
  simp only at hh h0 ⊢
  go_enter Try.func38, Try.ntmps38
  go_wp2
  go_ret
  exact ⟨rfl, Ext.alloc _ _⟩

set_option maxHeartbeats 1000000 in
theorem rright_any (x : Pc) (p : Option Addr) (n c : Nat) (w : World) (h : TriC w [.int .i64 x.i, .int .i64 x.f, .slice p n c] x.i x.f x.d p n c) :
    Calls Try.prog 40 #[.agg #[.int .i64 x.i, .int .i64 x.f, .slice p n c]] w fun e w' => e = .returned (.bool (rightB x)) ∧ Ext w w' := by
  have hl := h.row.1
  have hn : n ≤ 9223372036854775807 := h.row.2.1
  unfold rightB
  rw [hl]
  clear h hl
  obtain ⟨a, f, d⟩ := x
  simp only
  obtain ⟨B, hB⟩ : ∃ B, decide (1 ≤ a ∧ 0 < n ∧ 0 ≤ f ∧ f ≤ 4096 - (n : Int)) = B := ⟨_, rfl⟩
  have HB := Lib.hid hB
  rw [hB]
  clear hB
  have X2 : Ext w (w.alloc (.cells #[.int .i64 a, .int .i64 f, .slice p n c] 30)) := Ext.alloc _ _
  by_cases h1 : 1 ≤ a
  · by_cases h2 : 0 ≤ f
    · by_cases h3 : f ≤ 4096
      · by_cases h4 : 0 < n
        · by_cases h5 : n ≤ 4096
          · have h4' : (0 : Int) < (n : Int) := by omega
            have h5' : (n : Int) ≤ 4096 := by omega
            by_cases h6 : f + (n : Int) ≤ 4096
            · obtain rfl : B = true := HB.out ▸ decide_eq_true ⟨h1, h4, h2, by omega⟩
              clear HB
              go_enter Try.func40, Try.ntmps40
              go_wp2
              go_ret
              exact ⟨rfl, X2⟩
            · obtain rfl : B = false := HB.out ▸ decide_eq_false (by omega)
              clear HB
              go_enter Try.func40, Try.ntmps40
              go_wp2
              go_ret
              exact ⟨rfl, X2⟩
          · have h4' : (0 : Int) < (n : Int) := by omega
            have h5' : ¬ (n : Int) ≤ 4096 := by omega
            obtain rfl : B = false := HB.out ▸ decide_eq_false (by omega)
            clear HB
            go_enter Try.func40, Try.ntmps40
            go_wp2
            go_ret
            exact ⟨rfl, X2⟩
        · have h4' : ¬ (0 : Int) < (n : Int) := by omega
          obtain rfl : B = false := HB.out ▸ decide_eq_false (by omega)
          clear HB
          go_enter Try.func40, Try.ntmps40
          go_wp2
          go_ret
          exact ⟨rfl, X2⟩
      · obtain rfl : B = false := HB.out ▸ decide_eq_false (by omega)
        clear HB
        go_enter Try.func40, Try.ntmps40
        go_wp2
        go_ret
        exact ⟨rfl, X2⟩
    · obtain rfl : B = false := HB.out ▸ decide_eq_false (by omega)
      clear HB
      go_enter Try.func40, Try.ntmps40
      go_wp2
      go_ret
      exact ⟨rfl, X2⟩
  · obtain rfl : B = false := HB.out ▸ decide_eq_false (by omega)
    clear HB
    go_enter Try.func40, Try.ntmps40
    go_wp2
    go_ret
    exact ⟨rfl, X2⟩
end Go.Proofs.Ytcajmgdenhegjaa.Wr
