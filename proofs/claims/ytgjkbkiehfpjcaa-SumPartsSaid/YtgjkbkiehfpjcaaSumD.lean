/- Contract of the statements' head. -/
import Derived.Test.YtgjkbkiehfpjcaaSumC
import Derived.Lib.SlBytesConst
namespace Go.Proofs.Ytgjkbkiehfpjcaa.Sm
open Go.RowKit Go.Proofs.Ytgjkbkiehfpjcaa Go.Proofs.Ytgjkbkiehfpjcaa.Crc
set_option linter.unusedVariables false

def nine : List Nat := [49, 50, 51, 52, 53, 54, 55, 56, 57]
theorem info_u8 : (Try.prog.info? 5).map (fun i => (i.zero, i.size, i.bytes)) = some (some (.int .u8 0), 1, 1) := by kernel_rfl
/-- make of bytes -/
theorem make_u8 (m : Nat) (hm : m ≤ 1000000000) (w : World) : (Instr.makeSlice 22 (.int .i64 m) (.int .i64 m)).run Try.prog w = .ok (.slice (some ⟨w.heap.size, 0, none⟩) m m) (w.alloc (.cells (madeCells #[.int .u8 0] m) 5)) := by
  obtain ⟨i0, hi0, hz0, hz1, hz2⟩ := info_parts info_u8
  have h := run_make (P := Try.prog) w 22 5 i0 (.int .u8 0) Try.underlying22 hi0 hz0 .i64 .i64 m m (by omega) (by omega) (by rw [hz2]; omega) (by omega)
  rw [hz1, Nat.mul_one] at h
  simpa [Value.cells] using h

def zeros (n : Nat) : List Nat := List.replicate n 0

theorem made_zeros (n : Nat) : madeCells #[.int .u8 0] n = ((zeros n).map fun x : Nat => Value.int .u8 (x : Int)).toArray := by
  apply Array.toList_inj.1
  rw [toList_madeCells_one]
  simp [zeros]

set_option maxRecDepth 100000 in
set_option maxHeartbeats 4000000 in
theorem head_any (w : World) : Calls Try.prog 9 #[] w fun e w' => e = .returned (.bool true) ∧ Ext w w' := by
  have e1 : (((sum nine : Nat) : Int) == 3808858755) = true := by decide +kernel
  have e2 : (((sum [] : Nat) : Int) == 0) = true := by decide +kernel
  have e3 : (chk (bsums nine) [3808858755] == -1) = true := by decide +kernel
  have e4 : (chk (bsums nine) [] == 0) = true := by decide +kernel
  have e5 : (chk (bsums []) [0] == 0) = true := by decide +kernel
  have e6 : (((sum (zeros 4) : Nat) : Int) == 1214729159) = true := by decide +kernel
  have hmk : ∀ w, (Instr.makeSlice 22 (.int .i64 33) (.int .i64 33)).run Try.prog w = .ok (.slice (some ⟨w.heap.size, 0, none⟩) 33 33) (w.alloc (.cells (madeCells #[.int .u8 0] 33) 5)) := fun w => make_u8 33 (by omega) w
  have kc := fun (w : World) (C : Array Value) (n c : Nat) => Lib.run_convert_bytes_const (P := Try.prog) w 22 5 C n c Try.underlying22 Try.underlying5
  go_enter Try.func9, Try.ntmps9
  go_wp2_with fail
  refine (of_any _ _ _ nine _ (rowB_lit nine (t := 5) rfl rfl rfl (by decide) (Ext.refl _) (by decide))).mono ?_
  rintro e w1 ⟨rfl, hx1⟩
  have hx := Ext.trans (Ext.alloc w _) hx1
  have HN : Hid (RowB w1 (some ⟨w.heap.size, 0, none⟩) 9 nine) := Lib.hid (rowB_lit nine (t := 5) rfl rfl rfl (by decide) hx1 (by decide))
  clear hx1
  go_wp2_with fail
  refine (of_any _ _ _ [] _ (rowB_nil _)).mono ?_
  rintro e w2 ⟨rfl, hx2⟩
  have HN2 := Lib.hid (HN.out.ext hx2)
  replace hx := Ext.trans hx hx2
  clear hx2 HN
  go_wp2_with fail
  refine (check_any _ _ _ _ _ _ nine [3808858755] _ (HN2.out.ext (Ext.alloc _ _)) (rowI_lit [3808858755] (t := 3) rfl rfl rfl (Ext.refl _) (by decide)) (by decide) (by decide)).mono ?_
  rintro e w3 ⟨rfl, hx3⟩
  have HN3 := Lib.hid (HN2.out.ext (Ext.trans (Ext.alloc _ _) hx3))
  replace hx := Ext.trans hx (Ext.trans (Ext.alloc _ _) hx3)
  clear hx3 HN2
  go_wp2_with fail
  refine (check_any _ _ _ _ _ _ nine [] _ HN3.out (rowI_nil _ _) (by decide) (by decide)).mono ?_
  rintro e w4 ⟨rfl, hx4⟩
  replace hx := Ext.trans hx hx4
  clear hx4
  go_wp2_with fail
  refine (check_any _ _ _ _ _ _ [] [0] _ (rowB_nil _) (rowI_lit [0] (t := 3) rfl rfl rfl (Ext.refl _) (by decide)) (by decide) (by decide)).mono ?_
  rintro e w5 ⟨rfl, hx5⟩
  replace hx := Ext.trans hx (Ext.trans (Ext.alloc _ _) hx5)
  clear hx5
  go_wp2_with fail
  refine (blocks_any _ _ _ (zeros 33) _ (rowB_lit (zeros 33) (t := 5) (made_zeros 33) rfl rfl (by decide) (Ext.refl _) (by decide)) (by decide) (Nat.le_refl _)).mono ?_
  rintro e w6 ⟨g, m, rfl, hown, hx6⟩
  obtain rfl : m = 3 := by have := hown.1; simpa [bsums, zeros] using this.symm
  replace hx := Ext.trans hx (Ext.trans (Ext.alloc _ _) hx6)
  clear hx6 hown
  go_wp2_with fail
  refine (of_any _ _ _ (zeros 4) _ (rowB_lit (zeros 4) (t := 5) rfl rfl rfl (by decide) (Ext.refl _) (by decide))).mono ?_
  rintro e w7 ⟨rfl, hx7⟩
  replace hx := Ext.trans hx (Ext.trans (Ext.alloc _ _) hx7)
  clear hx7
  go_wp2
  go_ret
  exact ⟨rfl, hx⟩
end Go.Proofs.Ytgjkbkiehfpjcaa.Sm
