/- Contracts of the statements' own helpers: head, time, Between. -/
import Derived.Test.YtncppgmmcfippaaClockC
namespace Go.Proofs.Ytncppgmmcfippaa.Clk
open Go.RowKit
set_option linter.unusedVariables false

/-- a time out of any number -/
def tm (n : Int) : Int := n % 1099511627777

set_option maxHeartbeats 400000 in
theorem time_any (n : Int) (w : World) (h0 : 0 ≤ n) (h1 : n < 18446744073709551616) :
    Calls Try.prog 20 #[.int .u64 n] w fun e w' => e = .returned (.int .i64 (tm n)) ∧ w = w' := by
  go_enter Try.func20, Try.ntmps20
  go_wp2
  go_ret
  exact ⟨rfl, rfl⟩

/-- some number from one to another -/
def btw (a b n : Int) : Int := if b ≤ a then a else a + n % (b - a + 1)
set_option maxHeartbeats 400000 in
theorem between_any (a b n : Int) (w : World) (h0 : 0 ≤ n) (h1 : n < 18446744073709551616) (ha : 0 ≤ a) (ha' : a ≤ 9000000000000) (hb : 0 ≤ b) (hb' : b ≤ 9000000000000) :
    Calls Try.prog 21 #[.int .i64 a, .int .i64 b, .int .u64 n] w fun e w' => e = .returned (.int .i64 (btw a b n)) ∧ w = w' := by
  by_cases h : b ≤ a
  · go_enter Try.func21, Try.ntmps21
    go_wp2
    go_ret
    exact ⟨ret_int (by rw [btw, if_pos h]), rfl⟩
  · have m1 := Int.emod_nonneg n (show b - a + 1 ≠ 0 by omega)
    have m2 := Int.emod_lt_of_pos n (show 0 < b - a + 1 by omega)
    have H := Lib.hid h
    go_enter Try.func21, Try.ntmps21
    go_wp2
    go_ret
    exact ⟨ret_int (by rw [btw, if_neg (by have := H.out; omega)]), rfl⟩

theorem rowI2 (w : World) (a b : Int) (t : TypeId) (k : IntKind) (w' : World) (h : Ext (w.alloc (.cells #[.int k a, .int k b] t)) w') : RowI k w' (some ⟨w.heap.size, 0, none⟩) 2 [a, b] := by
  refine ⟨rfl, by omega, fun _ => ⟨_, _, rfl, fun j hj => h.cell ?_⟩⟩
  have e := heap_alloc_new w (.cells #[.int k a, .int k b] t)
  match j, hj with
  | 0, _ => simp only [World.cell?, e]; rfl
  | 1, _ => simp only [World.cell?, e]; rfl

theorem rowI22 (w : World) (a b c d : Int) (t : TypeId) (k : IntKind) : RowI k ((w.alloc (.cells #[.int k a, .int k b] t)).alloc (.cells #[.int k c, .int k d] t)) (some ⟨w.heap.size, 0, none⟩) 2 [a, b] ∧
    RowI k ((w.alloc (.cells #[.int k a, .int k b] t)).alloc (.cells #[.int k c, .int k d] t)) (some ⟨w.heap.size + 1, 0, none⟩) 2 [c, d] := by
  refine ⟨rowI2 w a b t k _ (Ext.alloc _ _), ?_⟩
  have h := rowI2 (w.alloc (.cells #[.int k a, .int k b] t)) c d t k _ (Ext.refl _)
  have e : (w.alloc (.cells #[.int k a, .int k b] t)).heap.size = w.heap.size + 1 := by simp
  rw [e] at h
  exact h

theorem right1 : RightP [0, 10] [5, 15] := by
  refine ⟨rfl, fun i hi => ?_, fun i j hi hj => ?_⟩
  · match i, hi with
    | 0, _ => unfold OkAt; decide
    | 1, _ => unfold OkAt; decide
  · match i, j, hi, hj with
    | 1, 0, _, _ => unfold OkTo; decide
theorem right2 : ¬ RightP [0, 10] [5, 17] := fun h => by
  have := (h.2.2 1 0 (by decide) (by decide)).2.2
  exact absurd this (by decide)

set_option maxHeartbeats 1000000 in
theorem head_any (w : World) : Calls Try.prog 9 #[] w fun e w' => e = .returned (.bool true) ∧ Ext w w' := by
  have e1 : (lo (tt 1000) == 999) = true := by decide
  have e2 : (hi (tt 1000) == 1001) = true := by decide
  have e3 : (lo (tt 1) == 0) = true := by decide
  have e4 : (hi (tt 1) == 2) = true := by decide
  have e5 : (wt (aa 1) == 3) = true := by decide
  have e6 : (wt (aa 0) == 0) = true := by decide
  have e7 : (us (aa 100) == 98) = true := by decide
  have e8 : (us (aa 0) == -1) = true := by decide
  go_enter Try.func9, Try.ntmps9
  go_wp2_with (first | (go_at_call 10; refine (least0_any _ _).mono ?_; rintro e w' ⟨rfl, rfl⟩) | (go_at_call 12; refine (most0_any _ _).mono ?_; rintro e w' ⟨rfl, rfl⟩))
  refine (wait_any _ _).mono ?_
  rintro e w1 ⟨rfl, x1⟩
  go_wp2_with fail
  refine (wait_any _ _).mono ?_
  rintro e w2 ⟨rfl, x2⟩
  go_wp2_with fail
  refine (use_any _ _).mono ?_
  rintro e w3 ⟨rfl, x3⟩
  go_wp2_with fail
  refine (use_any _ _).mono ?_
  rintro e w4 ⟨rfl, x4⟩
  go_wp2_with fail
  have r5 := rowI22 w4 0 10 5 15 3 .i64
  refine (right_any _ _ _ _ _ _ [0, 10] [5, 15] _ r5.1 r5.2).mono ?_
  rintro e w5 ⟨b5, rfl, h5, x5⟩
  obtain rfl : b5 = true := h5.2 right1
  clear h5
  go_wp2_with fail
  have r6 := rowI22 w5 0 10 5 17 3 .i64
  refine (right_any _ _ _ _ _ _ [0, 10] [5, 17] _ r6.1 r6.2).mono ?_
  rintro e w6 ⟨b6, rfl, h6, x6⟩
  obtain rfl : b6 = false := by
    cases b6
    · rfl
    · exact absurd (h6.1 rfl) right2
  clear h6
  go_wp2
  go_ret
  exact ⟨rfl, (((((x1.trans x2).trans x3).trans x4).trans (((Ext.alloc _ _).trans (Ext.alloc _ _)).trans x5)).trans (((Ext.alloc _ _).trans (Ext.alloc _ _)).trans x6))⟩
end Go.Proofs.Ytncppgmmcfippaa.Clk
