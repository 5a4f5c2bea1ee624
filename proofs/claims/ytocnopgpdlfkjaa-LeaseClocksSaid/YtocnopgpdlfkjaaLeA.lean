/- Leases: may one be so; do two clash; rows of those of which something is true. -/
import Derived.Test.YtocnopgpdlfkjaaLeM
import Derived.BigQuiet
import Derived.IntWalk
import Derived.Deep.RegionWith
namespace Go.Proofs.Ytocnopgpdlfkjaa.Ls
open Go.RowKit Go.Proofs.Ytocnopgpdlfkjaa
set_option linter.unusedVariables false

theorem rightSp_any (f t : Int) (w : World) : Calls Try.prog 39 #[.agg #[.int .i64 f, .int .i64 t]] w fun e w' => e = .returned (.bool (rightSpB f t)) ∧ Ext w w' := by
  by_cases ha : 0 ≤ f
  · have da0 : decide (0 ≤ f) = true := decide_eq_true ha
    have Ha := Lib.hid ha
    clear ha
    by_cases hb : f < t
    · have db0 : decide (f < t) = true := decide_eq_true hb
      have Hb := Lib.hid hb
      clear hb
      by_cases hc : t ≤ 1099511627776
      · have dc0 : decide (t ≤ 1099511627776) = true := decide_eq_true hc
        have Hc := Lib.hid hc
        clear hc
        have e : rightSpB f t = true := by
          have ga := Ha.out
          have gb := Hb.out
          have gc := Hc.out
          unfold rightSpB
          exact decide_eq_true (by omega)
        rw [e]
        clear e
        go_enter Try.func39, Try.ntmps39
        go_wp2
        go_ret
        exact ⟨rfl, Ext.alloc _ _⟩
      · have dc0 : decide (t ≤ 1099511627776) = false := decide_eq_false hc
        have Hc := Lib.hid hc
        clear hc
        have e : rightSpB f t = false := by
          have ga := Ha.out
          have gb := Hb.out
          have gc := Hc.out
          unfold rightSpB
          exact decide_eq_false (by omega)
        rw [e]
        clear e
        go_enter Try.func39, Try.ntmps39
        go_wp2
        go_ret
        exact ⟨rfl, Ext.alloc _ _⟩
    · have db0 : decide (f < t) = false := decide_eq_false hb
      have Hb := Lib.hid hb
      clear hb
      have e : rightSpB f t = false := by
        have ga := Ha.out
        have gb := Hb.out
        unfold rightSpB
        exact decide_eq_false (by omega)
      rw [e]
      clear e
      go_enter Try.func39, Try.ntmps39
      go_wp2
      go_ret
      exact ⟨rfl, Ext.alloc _ _⟩
  · have da0 : decide (0 ≤ f) = false := decide_eq_false ha
    have Ha := Lib.hid ha
    clear ha
    have e : rightSpB f t = false := by
      have ga := Ha.out
      unfold rightSpB
      exact decide_eq_false (by omega)
    rw [e]
    clear e
    go_enter Try.func39, Try.ntmps39
    go_wp2
    go_ret
    exact ⟨rfl, Ext.alloc _ _⟩

theorem kind_any (k : Int) (w : World) : Calls Try.prog 40 #[.int .i64 k] w fun e w' => e = .returned (.bool (kindB k)) ∧ Ext w w' := by
  by_cases ha : k = 1
  · have da0 : (k == 1) = true := by simp [ha]
    have Ha := Lib.hid ha
    clear ha
    have e : kindB k = true := by
      have ga := Ha.out
      unfold kindB
      exact decide_eq_true (by omega)
    rw [e]
    clear e
    go_enter Try.func40, Try.ntmps40
    go_wp2
    go_ret
    exact ⟨rfl, Ext.refl _⟩
  · have da0 : (k == 1) = false := by simp [ha]
    have Ha := Lib.hid ha
    clear ha
    by_cases hb : k = 2
    · have db0 : (k == 2) = true := by simp [hb]
      have Hb := Lib.hid hb
      clear hb
      have e : kindB k = true := by
        have ga := Ha.out
        have gb := Hb.out
        unfold kindB
        exact decide_eq_true (by omega)
      rw [e]
      clear e
      go_enter Try.func40, Try.ntmps40
      go_wp2
      go_ret
      exact ⟨rfl, Ext.refl _⟩
    · have db0 : (k == 2) = false := by simp [hb]
      have Hb := Lib.hid hb
      clear hb
      have e : kindB k = false := by
        have ga := Ha.out
        have gb := Hb.out
        unfold kindB
        exact decide_eq_false (by omega)
      rw [e]
      clear e
      go_enter Try.func40, Try.ntmps40
      go_wp2
      go_ret
      exact ⟨rfl, Ext.refl _⟩

set_option maxRecDepth 100000 in
set_option maxHeartbeats 4000000 in
theorem one_any (x : Le) (w : World) : Calls Try.prog 31 #[.agg #[.int .i64 x.c, .int .i64 x.i, .int .i64 x.k, .int .i64 x.f, .int .i64 x.t, .int .i64 x.u, .int .i64 x.e]] w fun e w' => e = .returned (.bool (oneB x)) ∧ Ext w w' := by
  by_cases ha : 0 ≤ x.c
  · have da0 : decide (0 ≤ x.c) = true := decide_eq_true ha
    have Ha := Lib.hid ha
    clear ha
    by_cases hb : x.c < 16
    · have db0 : decide (x.c < 16) = true := decide_eq_true hb
      have Hb := Lib.hid hb
      clear hb
      by_cases hc : 1 ≤ x.i
      · have dc0 : decide (1 ≤ x.i) = true := decide_eq_true hc
        have Hc := Lib.hid hc
        clear hc
        by_cases hd : x.k = 1 ∨ x.k = 2
        · have dd0 : kindB x.k = true := decide_eq_true hd
          have Hd := Lib.hid hd
          clear hd
          by_cases hs : 0 ≤ x.f ∧ x.f < x.t ∧ x.t ≤ 1099511627776
          · have ds0 : rightSpB x.f x.t = true := decide_eq_true hs
            have Hs := Lib.hid hs
            clear hs
            by_cases hg : 0 ≤ x.u
            · have dg0 : decide (0 ≤ x.u) = true := decide_eq_true hg
              have Hg := Lib.hid hg
              clear hg
              by_cases hh : x.u ≤ 4398046511104
              · have dh0 : decide (x.u ≤ 4398046511104) = true := decide_eq_true hh
                have Hh := Lib.hid hh
                clear hh
                by_cases hj : 0 ≤ x.e
                · have dj0 : decide (0 ≤ x.e) = true := decide_eq_true hj
                  have Hj := Lib.hid hj
                  clear hj
                  have e : oneB x = true := by
                    have ga := Ha.out
                    have gb := Hb.out
                    have gc := Hc.out
                    have gd := Hd.out
                    have gs := Hs.out
                    have gg := Hg.out
                    have gh := Hh.out
                    have gj := Hj.out
                    unfold oneB
                    exact decide_eq_true (by omega)
                  rw [e]
                  clear e
                  go_enter Try.func31, Try.ntmps31
                  go_wp2_with fail
                  refine (kind_any _ _).mono ?_
                  rintro e w1 ⟨rfl, hx1⟩
                  rw [dd0]
                  have hx : Ext (w.alloc (.cells #[.int .i64 x.c, .int .i64 x.i, .int .i64 x.k, .int .i64 x.f, .int .i64 x.t, .int .i64 x.u, .int .i64 x.e] 26)) w1 := Ext.trans (by (unfold Ext; repeat (first | exact Below.refl _ _ | assumption | refine Below.drew ?_ | refine below_drewN ?_ _ | refine Below.alloc ?_ (by first | exact Nat.le_refl _ | (simp; done) | (simp; omega) | omega) _ | refine Below.setCell ?_ (by first | exact Nat.le_refl _ | (simp; done) | (simp; omega) | omega) _))) hx1
                  clear hx1
                  have cc : w1.cell? ⟨w.heap.size, 0, none⟩ = some (.int .i64 x.c) := hx.cell (cell_of_row _ _ 0 _ _ _ (heap_alloc_new w _))
                  have ci : w1.cell? ⟨w.heap.size, 1, none⟩ = some (.int .i64 x.i) := hx.cell (cell_of_row _ _ 1 _ _ _ (heap_alloc_new w _))
                  have ck : w1.cell? ⟨w.heap.size, 2, none⟩ = some (.int .i64 x.k) := hx.cell (cell_of_row _ _ 2 _ _ _ (heap_alloc_new w _))
                  have cf : w1.cell? ⟨w.heap.size, 3, none⟩ = some (.int .i64 x.f) := hx.cell (cell_of_row _ _ 3 _ _ _ (heap_alloc_new w _))
                  have ct : w1.cell? ⟨w.heap.size, 4, none⟩ = some (.int .i64 x.t) := hx.cell (cell_of_row _ _ 4 _ _ _ (heap_alloc_new w _))
                  have cu : w1.cell? ⟨w.heap.size, 5, none⟩ = some (.int .i64 x.u) := hx.cell (cell_of_row _ _ 5 _ _ _ (heap_alloc_new w _))
                  have ce : w1.cell? ⟨w.heap.size, 6, none⟩ = some (.int .i64 x.e) := hx.cell (cell_of_row _ _ 6 _ _ _ (heap_alloc_new w _))
                  have HX := Lib.hid (Ext.trans (Ext.alloc _ _) hx)
                  clear hx
                  go_wp2_with fail
                  refine (rightSp_any _ _ _).mono ?_
                  rintro e w2 ⟨rfl, hx2⟩
                  rw [ds0]
                  have ec := hx2.cell cc
                  have ei := hx2.cell ci
                  have ek := hx2.cell ck
                  have ef := hx2.cell cf
                  have et := hx2.cell ct
                  have eu := hx2.cell cu
                  have ee := hx2.cell ce
                  have HX2 := Lib.hid (Ext.trans HX.out hx2)
                  clear hx2
                  go_wp2
                  go_ret
                  exact ⟨rfl, HX2.out⟩
                · have dj0 : decide (0 ≤ x.e) = false := decide_eq_false hj
                  have Hj := Lib.hid hj
                  clear hj
                  have e : oneB x = false := by
                    have ga := Ha.out
                    have gb := Hb.out
                    have gc := Hc.out
                    have gd := Hd.out
                    have gs := Hs.out
                    have gg := Hg.out
                    have gh := Hh.out
                    have gj := Hj.out
                    unfold oneB
                    exact decide_eq_false (by omega)
                  rw [e]
                  clear e
                  go_enter Try.func31, Try.ntmps31
                  go_wp2_with fail
                  refine (kind_any _ _).mono ?_
                  rintro e w1 ⟨rfl, hx1⟩
                  rw [dd0]
                  have hx : Ext (w.alloc (.cells #[.int .i64 x.c, .int .i64 x.i, .int .i64 x.k, .int .i64 x.f, .int .i64 x.t, .int .i64 x.u, .int .i64 x.e] 26)) w1 := Ext.trans (by (unfold Ext; repeat (first | exact Below.refl _ _ | assumption | refine Below.drew ?_ | refine below_drewN ?_ _ | refine Below.alloc ?_ (by first | exact Nat.le_refl _ | (simp; done) | (simp; omega) | omega) _ | refine Below.setCell ?_ (by first | exact Nat.le_refl _ | (simp; done) | (simp; omega) | omega) _))) hx1
                  clear hx1
                  have cc : w1.cell? ⟨w.heap.size, 0, none⟩ = some (.int .i64 x.c) := hx.cell (cell_of_row _ _ 0 _ _ _ (heap_alloc_new w _))
                  have ci : w1.cell? ⟨w.heap.size, 1, none⟩ = some (.int .i64 x.i) := hx.cell (cell_of_row _ _ 1 _ _ _ (heap_alloc_new w _))
                  have ck : w1.cell? ⟨w.heap.size, 2, none⟩ = some (.int .i64 x.k) := hx.cell (cell_of_row _ _ 2 _ _ _ (heap_alloc_new w _))
                  have cf : w1.cell? ⟨w.heap.size, 3, none⟩ = some (.int .i64 x.f) := hx.cell (cell_of_row _ _ 3 _ _ _ (heap_alloc_new w _))
                  have ct : w1.cell? ⟨w.heap.size, 4, none⟩ = some (.int .i64 x.t) := hx.cell (cell_of_row _ _ 4 _ _ _ (heap_alloc_new w _))
                  have cu : w1.cell? ⟨w.heap.size, 5, none⟩ = some (.int .i64 x.u) := hx.cell (cell_of_row _ _ 5 _ _ _ (heap_alloc_new w _))
                  have ce : w1.cell? ⟨w.heap.size, 6, none⟩ = some (.int .i64 x.e) := hx.cell (cell_of_row _ _ 6 _ _ _ (heap_alloc_new w _))
                  have HX := Lib.hid (Ext.trans (Ext.alloc _ _) hx)
                  clear hx
                  go_wp2_with fail
                  refine (rightSp_any _ _ _).mono ?_
                  rintro e w2 ⟨rfl, hx2⟩
                  rw [ds0]
                  have ec := hx2.cell cc
                  have ei := hx2.cell ci
                  have ek := hx2.cell ck
                  have ef := hx2.cell cf
                  have et := hx2.cell ct
                  have eu := hx2.cell cu
                  have ee := hx2.cell ce
                  have HX2 := Lib.hid (Ext.trans HX.out hx2)
                  clear hx2
                  go_wp2
                  go_ret
                  exact ⟨rfl, HX2.out⟩
              · have dh0 : decide (x.u ≤ 4398046511104) = false := decide_eq_false hh
                have Hh := Lib.hid hh
                clear hh
                have e : oneB x = false := by
                  have ga := Ha.out
                  have gb := Hb.out
                  have gc := Hc.out
                  have gd := Hd.out
                  have gs := Hs.out
                  have gg := Hg.out
                  have gh := Hh.out
                  unfold oneB
                  exact decide_eq_false (by omega)
                rw [e]
                clear e
                go_enter Try.func31, Try.ntmps31
                go_wp2_with fail
                refine (kind_any _ _).mono ?_
                rintro e w1 ⟨rfl, hx1⟩
                rw [dd0]
                have hx : Ext (w.alloc (.cells #[.int .i64 x.c, .int .i64 x.i, .int .i64 x.k, .int .i64 x.f, .int .i64 x.t, .int .i64 x.u, .int .i64 x.e] 26)) w1 := Ext.trans (by (unfold Ext; repeat (first | exact Below.refl _ _ | assumption | refine Below.drew ?_ | refine below_drewN ?_ _ | refine Below.alloc ?_ (by first | exact Nat.le_refl _ | (simp; done) | (simp; omega) | omega) _ | refine Below.setCell ?_ (by first | exact Nat.le_refl _ | (simp; done) | (simp; omega) | omega) _))) hx1
                clear hx1
                have cc : w1.cell? ⟨w.heap.size, 0, none⟩ = some (.int .i64 x.c) := hx.cell (cell_of_row _ _ 0 _ _ _ (heap_alloc_new w _))
                have ci : w1.cell? ⟨w.heap.size, 1, none⟩ = some (.int .i64 x.i) := hx.cell (cell_of_row _ _ 1 _ _ _ (heap_alloc_new w _))
                have ck : w1.cell? ⟨w.heap.size, 2, none⟩ = some (.int .i64 x.k) := hx.cell (cell_of_row _ _ 2 _ _ _ (heap_alloc_new w _))
                have cf : w1.cell? ⟨w.heap.size, 3, none⟩ = some (.int .i64 x.f) := hx.cell (cell_of_row _ _ 3 _ _ _ (heap_alloc_new w _))
                have ct : w1.cell? ⟨w.heap.size, 4, none⟩ = some (.int .i64 x.t) := hx.cell (cell_of_row _ _ 4 _ _ _ (heap_alloc_new w _))
                have cu : w1.cell? ⟨w.heap.size, 5, none⟩ = some (.int .i64 x.u) := hx.cell (cell_of_row _ _ 5 _ _ _ (heap_alloc_new w _))
                have ce : w1.cell? ⟨w.heap.size, 6, none⟩ = some (.int .i64 x.e) := hx.cell (cell_of_row _ _ 6 _ _ _ (heap_alloc_new w _))
                have HX := Lib.hid (Ext.trans (Ext.alloc _ _) hx)
                clear hx
                go_wp2_with fail
                refine (rightSp_any _ _ _).mono ?_
                rintro e w2 ⟨rfl, hx2⟩
                rw [ds0]
                have ec := hx2.cell cc
                have ei := hx2.cell ci
                have ek := hx2.cell ck
                have ef := hx2.cell cf
                have et := hx2.cell ct
                have eu := hx2.cell cu
                have ee := hx2.cell ce
                have HX2 := Lib.hid (Ext.trans HX.out hx2)
                clear hx2
                go_wp2
                go_ret
                exact ⟨rfl, HX2.out⟩
            · have dg0 : decide (0 ≤ x.u) = false := decide_eq_false hg
              have Hg := Lib.hid hg
              clear hg
              have e : oneB x = false := by
                have ga := Ha.out
                have gb := Hb.out
                have gc := Hc.out
                have gd := Hd.out
                have gs := Hs.out
                have gg := Hg.out
                unfold oneB
                exact decide_eq_false (by omega)
              rw [e]
              clear e
              go_enter Try.func31, Try.ntmps31
              go_wp2_with fail
              refine (kind_any _ _).mono ?_
              rintro e w1 ⟨rfl, hx1⟩
              rw [dd0]
              have hx : Ext (w.alloc (.cells #[.int .i64 x.c, .int .i64 x.i, .int .i64 x.k, .int .i64 x.f, .int .i64 x.t, .int .i64 x.u, .int .i64 x.e] 26)) w1 := Ext.trans (by (unfold Ext; repeat (first | exact Below.refl _ _ | assumption | refine Below.drew ?_ | refine below_drewN ?_ _ | refine Below.alloc ?_ (by first | exact Nat.le_refl _ | (simp; done) | (simp; omega) | omega) _ | refine Below.setCell ?_ (by first | exact Nat.le_refl _ | (simp; done) | (simp; omega) | omega) _))) hx1
              clear hx1
              have cc : w1.cell? ⟨w.heap.size, 0, none⟩ = some (.int .i64 x.c) := hx.cell (cell_of_row _ _ 0 _ _ _ (heap_alloc_new w _))
              have ci : w1.cell? ⟨w.heap.size, 1, none⟩ = some (.int .i64 x.i) := hx.cell (cell_of_row _ _ 1 _ _ _ (heap_alloc_new w _))
              have ck : w1.cell? ⟨w.heap.size, 2, none⟩ = some (.int .i64 x.k) := hx.cell (cell_of_row _ _ 2 _ _ _ (heap_alloc_new w _))
              have cf : w1.cell? ⟨w.heap.size, 3, none⟩ = some (.int .i64 x.f) := hx.cell (cell_of_row _ _ 3 _ _ _ (heap_alloc_new w _))
              have ct : w1.cell? ⟨w.heap.size, 4, none⟩ = some (.int .i64 x.t) := hx.cell (cell_of_row _ _ 4 _ _ _ (heap_alloc_new w _))
              have cu : w1.cell? ⟨w.heap.size, 5, none⟩ = some (.int .i64 x.u) := hx.cell (cell_of_row _ _ 5 _ _ _ (heap_alloc_new w _))
              have ce : w1.cell? ⟨w.heap.size, 6, none⟩ = some (.int .i64 x.e) := hx.cell (cell_of_row _ _ 6 _ _ _ (heap_alloc_new w _))
              have HX := Lib.hid (Ext.trans (Ext.alloc _ _) hx)
              clear hx
              go_wp2_with fail
              refine (rightSp_any _ _ _).mono ?_
              rintro e w2 ⟨rfl, hx2⟩
              rw [ds0]
              have ec := hx2.cell cc
              have ei := hx2.cell ci
              have ek := hx2.cell ck
              have ef := hx2.cell cf
              have et := hx2.cell ct
              have eu := hx2.cell cu
              have ee := hx2.cell ce
              have HX2 := Lib.hid (Ext.trans HX.out hx2)
              clear hx2
              go_wp2
              go_ret
              exact ⟨rfl, HX2.out⟩
          · have ds0 : rightSpB x.f x.t = false := decide_eq_false hs
            have Hs := Lib.hid hs
            clear hs
            have e : oneB x = false := by
              have ga := Ha.out
              have gb := Hb.out
              have gc := Hc.out
              have gd := Hd.out
              have gs := Hs.out
              unfold oneB
              exact decide_eq_false (by omega)
            rw [e]
            clear e
            go_enter Try.func31, Try.ntmps31
            go_wp2_with fail
            refine (kind_any _ _).mono ?_
            rintro e w1 ⟨rfl, hx1⟩
            rw [dd0]
            have hx : Ext (w.alloc (.cells #[.int .i64 x.c, .int .i64 x.i, .int .i64 x.k, .int .i64 x.f, .int .i64 x.t, .int .i64 x.u, .int .i64 x.e] 26)) w1 := Ext.trans (by (unfold Ext; repeat (first | exact Below.refl _ _ | assumption | refine Below.drew ?_ | refine below_drewN ?_ _ | refine Below.alloc ?_ (by first | exact Nat.le_refl _ | (simp; done) | (simp; omega) | omega) _ | refine Below.setCell ?_ (by first | exact Nat.le_refl _ | (simp; done) | (simp; omega) | omega) _))) hx1
            clear hx1
            have cc : w1.cell? ⟨w.heap.size, 0, none⟩ = some (.int .i64 x.c) := hx.cell (cell_of_row _ _ 0 _ _ _ (heap_alloc_new w _))
            have ci : w1.cell? ⟨w.heap.size, 1, none⟩ = some (.int .i64 x.i) := hx.cell (cell_of_row _ _ 1 _ _ _ (heap_alloc_new w _))
            have ck : w1.cell? ⟨w.heap.size, 2, none⟩ = some (.int .i64 x.k) := hx.cell (cell_of_row _ _ 2 _ _ _ (heap_alloc_new w _))
            have cf : w1.cell? ⟨w.heap.size, 3, none⟩ = some (.int .i64 x.f) := hx.cell (cell_of_row _ _ 3 _ _ _ (heap_alloc_new w _))
            have ct : w1.cell? ⟨w.heap.size, 4, none⟩ = some (.int .i64 x.t) := hx.cell (cell_of_row _ _ 4 _ _ _ (heap_alloc_new w _))
            have cu : w1.cell? ⟨w.heap.size, 5, none⟩ = some (.int .i64 x.u) := hx.cell (cell_of_row _ _ 5 _ _ _ (heap_alloc_new w _))
            have ce : w1.cell? ⟨w.heap.size, 6, none⟩ = some (.int .i64 x.e) := hx.cell (cell_of_row _ _ 6 _ _ _ (heap_alloc_new w _))
            have HX := Lib.hid (Ext.trans (Ext.alloc _ _) hx)
            clear hx
            go_wp2_with fail
            refine (rightSp_any _ _ _).mono ?_
            rintro e w2 ⟨rfl, hx2⟩
            rw [ds0]
            have ec := hx2.cell cc
            have ei := hx2.cell ci
            have ek := hx2.cell ck
            have ef := hx2.cell cf
            have et := hx2.cell ct
            have eu := hx2.cell cu
            have ee := hx2.cell ce
            have HX2 := Lib.hid (Ext.trans HX.out hx2)
            clear hx2
            go_wp2
            go_ret
            exact ⟨rfl, HX2.out⟩
        · have dd0 : kindB x.k = false := decide_eq_false hd
          have Hd := Lib.hid hd
          clear hd
          have e : oneB x = false := by
            have ga := Ha.out
            have gb := Hb.out
            have gc := Hc.out
            have gd := Hd.out
            unfold oneB
            exact decide_eq_false (by omega)
          rw [e]
          clear e
          go_enter Try.func31, Try.ntmps31
          go_wp2_with fail
          refine (kind_any _ _).mono ?_
          rintro e w1 ⟨rfl, hx1⟩
          rw [dd0]
          have hx : Ext (w.alloc (.cells #[.int .i64 x.c, .int .i64 x.i, .int .i64 x.k, .int .i64 x.f, .int .i64 x.t, .int .i64 x.u, .int .i64 x.e] 26)) w1 := Ext.trans (by (unfold Ext; repeat (first | exact Below.refl _ _ | assumption | refine Below.drew ?_ | refine below_drewN ?_ _ | refine Below.alloc ?_ (by first | exact Nat.le_refl _ | (simp; done) | (simp; omega) | omega) _ | refine Below.setCell ?_ (by first | exact Nat.le_refl _ | (simp; done) | (simp; omega) | omega) _))) hx1
          clear hx1
          have cc : w1.cell? ⟨w.heap.size, 0, none⟩ = some (.int .i64 x.c) := hx.cell (cell_of_row _ _ 0 _ _ _ (heap_alloc_new w _))
          have ci : w1.cell? ⟨w.heap.size, 1, none⟩ = some (.int .i64 x.i) := hx.cell (cell_of_row _ _ 1 _ _ _ (heap_alloc_new w _))
          have ck : w1.cell? ⟨w.heap.size, 2, none⟩ = some (.int .i64 x.k) := hx.cell (cell_of_row _ _ 2 _ _ _ (heap_alloc_new w _))
          have cf : w1.cell? ⟨w.heap.size, 3, none⟩ = some (.int .i64 x.f) := hx.cell (cell_of_row _ _ 3 _ _ _ (heap_alloc_new w _))
          have ct : w1.cell? ⟨w.heap.size, 4, none⟩ = some (.int .i64 x.t) := hx.cell (cell_of_row _ _ 4 _ _ _ (heap_alloc_new w _))
          have cu : w1.cell? ⟨w.heap.size, 5, none⟩ = some (.int .i64 x.u) := hx.cell (cell_of_row _ _ 5 _ _ _ (heap_alloc_new w _))
          have ce : w1.cell? ⟨w.heap.size, 6, none⟩ = some (.int .i64 x.e) := hx.cell (cell_of_row _ _ 6 _ _ _ (heap_alloc_new w _))
          have HX := Lib.hid (Ext.trans (Ext.alloc _ _) hx)
          clear hx
          go_wp2
          go_ret
          exact ⟨rfl, HX.out⟩
      · have dc0 : decide (1 ≤ x.i) = false := decide_eq_false hc
        have Hc := Lib.hid hc
        clear hc
        have e : oneB x = false := by
          have ga := Ha.out
          have gb := Hb.out
          have gc := Hc.out
          unfold oneB
          exact decide_eq_false (by omega)
        rw [e]
        clear e
        go_enter Try.func31, Try.ntmps31
        go_wp2
        go_ret
        exact ⟨rfl, Ext.alloc _ _⟩
    · have db0 : decide (x.c < 16) = false := decide_eq_false hb
      have Hb := Lib.hid hb
      clear hb
      have e : oneB x = false := by
        have ga := Ha.out
        have gb := Hb.out
        unfold oneB
        exact decide_eq_false (by omega)
      rw [e]
      clear e
      go_enter Try.func31, Try.ntmps31
      go_wp2
      go_ret
      exact ⟨rfl, Ext.alloc _ _⟩
  · have da0 : decide (0 ≤ x.c) = false := decide_eq_false ha
    have Ha := Lib.hid ha
    clear ha
    have e : oneB x = false := by
      have ga := Ha.out
      unfold oneB
      exact decide_eq_false (by omega)
    rw [e]
    clear e
    go_enter Try.func31, Try.ntmps31
    go_wp2
    go_ret
    exact ⟨rfl, Ext.alloc _ _⟩

set_option maxRecDepth 100000 in
set_option maxHeartbeats 4000000 in
theorem clash_any (a b : Le) (w : World) : Calls Try.prog 53 #[.agg #[.int .i64 a.c, .int .i64 a.i, .int .i64 a.k, .int .i64 a.f, .int .i64 a.t, .int .i64 a.u, .int .i64 a.e], .agg #[.int .i64 b.c, .int .i64 b.i, .int .i64 b.k, .int .i64 b.f, .int .i64 b.t, .int .i64 b.u, .int .i64 b.e]] w fun e w' => e = .returned (.bool (clashB a b)) ∧ Ext w w' := by
  by_cases hm : a.f < b.t
  · have dm0 : decide (a.f < b.t) = true := decide_eq_true hm
    have Hm := Lib.hid hm
    clear hm
    by_cases hn : b.f < a.t
    · have dn0 : decide (b.f < a.t) = true := decide_eq_true hn
      have Hn := Lib.hid hn
      clear hn
      by_cases hc : a.c = b.c
      · have dc0 : (a.c != b.c) = false := by simp [hc]
        have Hc := Lib.hid hc
        clear hc
        have e : clashB a b = false := by
          have gm := Hm.out
          have gn := Hn.out
          have gc := Hc.out
          unfold clashB
          exact decide_eq_false (by omega)
        rw [e]
        clear e
        go_enter Try.func53, Try.ntmps53
        go_wp2
        go_ret
        exact ⟨rfl, Ext.trans (Ext.alloc _ _) (Ext.alloc _ _)⟩
      · have dc0 : (a.c != b.c) = true := by simp [hc]
        have Hc := Lib.hid hc
        clear hc
        by_cases hi : a.i = b.i
        · have di0 : (a.i == b.i) = true := by simp [hi]
          have Hi := Lib.hid hi
          clear hi
          by_cases hk : a.k = 2
          · have dk0 : (a.k == 2) = true := by simp [hk]
            have Hk := Lib.hid hk
            clear hk
            have e : clashB a b = true := by
              have gm := Hm.out
              have gn := Hn.out
              have gc := Hc.out
              have gi := Hi.out
              have gk := Hk.out
              unfold clashB
              exact decide_eq_true (by omega)
            rw [e]
            clear e
            go_enter Try.func53, Try.ntmps53
            go_wp2
            go_ret
            exact ⟨rfl, Ext.trans (Ext.alloc _ _) (Ext.alloc _ _)⟩
          · have dk0 : (a.k == 2) = false := by simp [hk]
            have Hk := Lib.hid hk
            clear hk
            by_cases hl : b.k = 2
            · have dl0 : (b.k == 2) = true := by simp [hl]
              have Hl := Lib.hid hl
              clear hl
              have e : clashB a b = true := by
                have gm := Hm.out
                have gn := Hn.out
                have gc := Hc.out
                have gi := Hi.out
                have gk := Hk.out
                have gl := Hl.out
                unfold clashB
                exact decide_eq_true (by omega)
              rw [e]
              clear e
              go_enter Try.func53, Try.ntmps53
              go_wp2
              go_ret
              exact ⟨rfl, Ext.trans (Ext.alloc _ _) (Ext.alloc _ _)⟩
            · have dl0 : (b.k == 2) = false := by simp [hl]
              have Hl := Lib.hid hl
              clear hl
              have e : clashB a b = false := by
                have gm := Hm.out
                have gn := Hn.out
                have gc := Hc.out
                have gi := Hi.out
                have gk := Hk.out
                have gl := Hl.out
                unfold clashB
                exact decide_eq_false (by omega)
              rw [e]
              clear e
              go_enter Try.func53, Try.ntmps53
              go_wp2
              go_ret
              exact ⟨rfl, Ext.trans (Ext.alloc _ _) (Ext.alloc _ _)⟩
        · have di0 : (a.i == b.i) = false := by simp [hi]
          have Hi := Lib.hid hi
          clear hi
          have e : clashB a b = false := by
            have gm := Hm.out
            have gn := Hn.out
            have gc := Hc.out
            have gi := Hi.out
            unfold clashB
            exact decide_eq_false (by omega)
          rw [e]
          clear e
          go_enter Try.func53, Try.ntmps53
          go_wp2
          go_ret
          exact ⟨rfl, Ext.trans (Ext.alloc _ _) (Ext.alloc _ _)⟩
    · have dn0 : decide (b.f < a.t) = false := decide_eq_false hn
      have Hn := Lib.hid hn
      clear hn
      by_cases hc : a.c = b.c
      · have dc0 : (a.c != b.c) = false := by simp [hc]
        have Hc := Lib.hid hc
        clear hc
        have e : clashB a b = false := by
          have gm := Hm.out
          have gn := Hn.out
          have gc := Hc.out
          unfold clashB
          exact decide_eq_false (by omega)
        rw [e]
        clear e
        go_enter Try.func53, Try.ntmps53
        go_wp2
        go_ret
        exact ⟨rfl, Ext.trans (Ext.alloc _ _) (Ext.alloc _ _)⟩
      · have dc0 : (a.c != b.c) = true := by simp [hc]
        have Hc := Lib.hid hc
        clear hc
        by_cases hi : a.i = b.i
        · have di0 : (a.i == b.i) = true := by simp [hi]
          have Hi := Lib.hid hi
          clear hi
          have e : clashB a b = false := by
            have gm := Hm.out
            have gn := Hn.out
            have gc := Hc.out
            have gi := Hi.out
            unfold clashB
            exact decide_eq_false (by omega)
          rw [e]
          clear e
          go_enter Try.func53, Try.ntmps53
          go_wp2
          go_ret
          exact ⟨rfl, Ext.trans (Ext.alloc _ _) (Ext.alloc _ _)⟩
        · have di0 : (a.i == b.i) = false := by simp [hi]
          have Hi := Lib.hid hi
          clear hi
          have e : clashB a b = false := by
            have gm := Hm.out
            have gn := Hn.out
            have gc := Hc.out
            have gi := Hi.out
            unfold clashB
            exact decide_eq_false (by omega)
          rw [e]
          clear e
          go_enter Try.func53, Try.ntmps53
          go_wp2
          go_ret
          exact ⟨rfl, Ext.trans (Ext.alloc _ _) (Ext.alloc _ _)⟩
  · have dm0 : decide (a.f < b.t) = false := decide_eq_false hm
    have Hm := Lib.hid hm
    clear hm
    by_cases hc : a.c = b.c
    · have dc0 : (a.c != b.c) = false := by simp [hc]
      have Hc := Lib.hid hc
      clear hc
      have e : clashB a b = false := by
        have gm := Hm.out
        have gc := Hc.out
        unfold clashB
        exact decide_eq_false (by omega)
      rw [e]
      clear e
      go_enter Try.func53, Try.ntmps53
      go_wp2
      go_ret
      exact ⟨rfl, Ext.trans (Ext.alloc _ _) (Ext.alloc _ _)⟩
    · have dc0 : (a.c != b.c) = true := by simp [hc]
      have Hc := Lib.hid hc
      clear hc
      by_cases hi : a.i = b.i
      · have di0 : (a.i == b.i) = true := by simp [hi]
        have Hi := Lib.hid hi
        clear hi
        have e : clashB a b = false := by
          have gm := Hm.out
          have gc := Hc.out
          have gi := Hi.out
          unfold clashB
          exact decide_eq_false (by omega)
        rw [e]
        clear e
        go_enter Try.func53, Try.ntmps53
        go_wp2
        go_ret
        exact ⟨rfl, Ext.trans (Ext.alloc _ _) (Ext.alloc _ _)⟩
      · have di0 : (a.i == b.i) = false := by simp [hi]
        have Hi := Lib.hid hi
        clear hi
        have e : clashB a b = false := by
          have gm := Hm.out
          have gc := Hc.out
          have gi := Hi.out
          unfold clashB
          exact decide_eq_false (by omega)
        rw [e]
        clear e
        go_enter Try.func53, Try.ntmps53
        go_wp2
        go_ret
        exact ⟨rfl, Ext.trans (Ext.alloc _ _) (Ext.alloc _ _)⟩
end Go.Proofs.Ytocnopgpdlfkjaa.Ls
