/- The walk of ClockPairs. -/
import Derived.Test.YtncppgmmcfippaaClockP
import Derived.Test.YtncppgmmcfippaaClockC
import Derived.Deep.RegionLaw
import Derived.BigRegion
namespace Go.Proofs.Ytncppgmmcfippaa.Clk
open Go.RowKit
set_option linter.unusedVariables false

/-- the times, gap by gap -/
def RealsB (zs : List Int) : Prop := ∀ j, j < zs.length → 0 ≤ at0 zs j ∧ at0 zs j ≤ 65536 * (j : Int)
def PairsR (w : World) (n : Nat) (v i : Value) (wr : World) : Prop :=
  ∃ (k : Nat) (zs : List Int), i = .int .i64 k ∧ k ≤ n ∧ wr.ownsRow w.heap.size 3 1 v (k + 1) (zs.map (.int .i64)) ∧ Hid (zs.length = k + 1) ∧ Hid (RealsB zs) ∧ Ext w wr

/-- a counter up to k, and a world that has grown -/
def CntR (w5 : World) (k : Nat) (i : Value) (wr : World) : Prop := ∃ t : Nat, i = .int .i64 t ∧ t ≤ k ∧ Ext w5 wr

theorem reals_snoc {zs : List Int} {k : Nat} {g : Int} (hl : zs.length = k + 1) (h : RealsB zs) (h0 : 0 ≤ g) (h1 : g < 65536) : RealsB (zs ++ [at0 zs k + g]) := by
  intro j hj
  simp at hj
  by_cases e : j < zs.length
  · rw [at0_append_old _ _ _ e]; exact h j e
  · obtain rfl : j = zs.length := by omega
    have := h k (by omega)
    rw [at0_append_last]; omega

set_option maxRecDepth 100000 in
set_option maxHeartbeats 4000000 in
theorem pairs_walk {p q r : Option Addr} {n m l c d e : Nat} {gs xs ys : List Int} {x : Int} {w : World} (hp : RowI .u16 w p n gs) (hq : RowI .u16 w q m xs) (hr : RowI .u16 w r l ys) (hg : ∀ x ∈ gs, (Lit.int .u16 x).wf = true) (hxs : ∀ x ∈ xs, (Lit.int .u16 x).wf = true) (hys : ∀ x ∈ ys, (Lit.int .u16 x).wf = true) (hx : (Lit.int .u16 x).wf = true) :
    Calls Try.prog 8 #[.slice p n c, .slice q m d, .slice r l e, .int .u16 x] w fun e w' => e = .returned (.bool true) ∧ Ext w w' := by
  obtain ⟨x0, x1⟩ := bd_u16 hx
  clear hx
  obtain ⟨i0, hi0, hz0, hz1, hz2⟩ := info_parts info_int
  have HP := Lib.hid hp
  have HQ := Lib.hid hq
  have HR := Lib.hid hr
  have HG := Lib.hid hg
  have HXS := Lib.hid hxs
  have HYS := Lib.hid hys
  have bn := hp.2.1
  clear hp hq hr hg hxs hys
  by_cases hn : n ≤ 20
  · go_enter Try.func8, Try.ntmps8
    go_wp2_with (go_at_call 9; refine (head_any _).mono ?_; rintro e w1 ⟨rfl, hx1⟩)
    go_loopw [10, 11] (fun v i wr => PairsR w n v i wr) (fun _ i _ => n - (intOf i).toNat)
    case atStart => exact ⟨0, [0], rfl, Nat.zero_le _, own_lit w1 #[.int .i64 0] _ _ 1 1 hx1.size rfl (by decide), Lib.hid rfl, Lib.hid (fun j hj => by
      obtain rfl : j = 0 := by simpa using hj
      simp [at0]), Ext.trans hx1 (Ext.alloc _ _)⟩
    case round =>
      obtain ⟨k, zs, rfl, hk, hown, HL, HB, hx⟩ := hrel
      by_cases hlt : k < n
      · obtain ⟨b2, off2, rfl, hcx⟩ := (HP.out).2.2 (by omega)
        have cx := hx.cell (hcx k hlt)
        have gw : 0 ≤ at0 gs k ∧ at0 gs k < 65536 := bd_u16 (HG.out _ (by
          unfold at0
          rw [List.getD_eq_getElem?_getD, List.getElem?_eq_getElem (by have := (HP.out).1; omega)]
          exact List.getElem_mem _))
        obtain ⟨gw0, gw1⟩ := gw
        obtain ⟨a, c', rfl, hrow⟩ := rowI_of_own hown (by omega)
        obtain ⟨b, off, rfl, hcz⟩ := hrow.2.2 (by omega)
        have cz := hcz k (by omega)
        have zb := HB.out k (by have := HL.out; omega)
        obtain ⟨zb0, zb1⟩ := zb
        clear hcx hcz hrow hx1
        have hk0 : (0 : Int) ≤ (k : Int) := by omega
        have hk1 : (k : Int) < ((k + 1 : Nat) : Int) := by omega
        have hk2 : (k : Int) < (n : Int) := by omega
        go_wp2
        have hk3 : (k : Int) < (k : Int) + 1 := by omega
        have ws1 : IntKind.i64.wrap (at0 gs k) = at0 gs k := IntWalk.i64_in _ (by omega)
        have ws2 : IntKind.i64.wrap (at0 zs k + at0 gs k) = at0 zs k + at0 gs k := IntWalk.i64_in _ (by omega)
        go_region_law (refine step_append_lies _ (by rfl) _ _ _ (by rfl) w.heap.size 3 i0 (.int .i64 0) 1 8 Try.underlying22 hi0 hz0 hz1 hz2 rfl (by decide) _ (k + 1) _ (by rfl) ((hown.alloc _).drew) ⟨wr.heap.size, 0, none⟩ 1 1 [.int .i64 (at0 zs k + at0 gs k)] (by rfl) (by rfl) (World.news_of_block (cs := #[.int .i64 (at0 zs k + at0 gs k)]) (t := 3) (fr := (0, 0)) (heap_alloc_new wr _)) (by intro u hu; simp at hu; subst hu; rfl) (by decide) (by unfold maxLen; omega) (by omega) (by have := hx.size; simp; omega) (wr.heap.size + 1) (by simp) ?_; intro gg cap w2 hown1 hgrow hat hlt1)
        all_goals
          have X : Ext w w2 := below_grown (Ext.trans hx (Ext.drew (Ext.alloc _ _))) (Nat.le_refl _) hgrow ((hown.alloc _).drew)
          clear hgrow hat hlt1 ws1 ws2 hown
          go_wp2
          go_roundw
          case rel => exact ⟨k + 1, zs ++ [at0 zs k + at0 gs k], by go_num, by omega, by have := hown1; simpa using this, Lib.hid (by simp; exact HL.out), Lib.hid (reals_snoc HL.out HB.out gw0 gw1), X⟩
          case measure => simp [intOf]; omega
      · obtain rfl : k = n := by omega
        obtain ⟨a, c', rfl, hrow⟩ := rowI_of_own hown (by omega)
        have HROW := Lib.hid hrow
        have sm : SmallT zs := fun j => by
          by_cases hj : j < zs.length
          · have h1 := HB.out j hj
            have h2 := HL.out
            omega
          · rw [show at0 zs j = 0 by unfold at0; rw [List.getD_eq_getElem?_getD, List.getElem?_eq_none (by omega)]; rfl]; omega
        have SM := Lib.hid sm
        clear hrow hown sm hx1
        go_wp2_with fail
        refine (shows_any _ _ _ _ _ _ zs xs _ HROW.out (HQ.out.ext hx) HXS.out (by omega) SM.out).mono ?_
        rintro e2 w2 ⟨av, pa, ca, rfl, hra, hba, hx2⟩
        replace hx := Ext.trans hx hx2
        have HRA := Lib.hid hra
        have HBA := Lib.hid hba
        have HR1 := Lib.hid (HROW.out.ext hx2)
        clear hra hba hx2
        go_wp2_with fail
        refine (shows_any _ _ _ _ _ _ zs ys _ HR1.out (HR.out.ext hx) HYS.out (by omega) SM.out).mono ?_
        rintro e3 w3 ⟨bv, pb, cb, rfl, hrb, hbb, hx3⟩
        replace hx := Ext.trans hx hx3
        have HRB := Lib.hid hrb
        have HBB := Lib.hid hbb
        have HRA1 := Lib.hid (HRA.out.ext hx3)
        have HR2 := Lib.hid (HR1.out.ext hx3)
        clear hrb hbb hx3 HR1 HRA HROW
        go_wp2_with fail
        refine (right_any _ _ _ _ _ _ zs av _ HR2.out HRA1.out).mono ?_
        rintro e4 w4 ⟨b4, rfl, k4, hx4⟩
        replace hx := Ext.trans hx hx4
        have K4 := Lib.hid k4
        have HRA2 := Lib.hid (HRA1.out.ext hx4)
        have HRB2 := Lib.hid (HRB.out.ext hx4)
        have HR3 := Lib.hid (HR2.out.ext hx4)
        clear k4 hx4 HRA1 HRB HR2
        cases b4
        · go_wp2
          go_ret
          exact ⟨rfl, hx⟩
        · go_wp2_with fail
          refine (right_any _ _ _ _ _ _ zs bv _ HR3.out HRB2.out).mono ?_
          rintro e5 w5 ⟨b5, rfl, k5, hx5⟩
          replace hx := Ext.trans hx hx5
          have K5 := Lib.hid k5
          have HRA3 := Lib.hid (HRA2.out.ext hx5)
          have HRB3 := Lib.hid (HRB2.out.ext hx5)
          clear k5 hx5 HRA2 HRB2 HR3
          cases b5
          · go_wp2
            go_ret
            exact ⟨rfl, hx⟩
          · have A := Lib.hid (K4.out.1 (by simp))
            have B := Lib.hid (K5.out.1 (by simp))
            clear K4 K5
            have la : av.length = k + 1 := HRA3.out.1
            have lb : bv.length = k + 1 := HRB3.out.1
            have lz : zs.length = k + 1 := HL.out
            have LA := Lib.hid la
            have LB := Lib.hid lb
            have LZ := Lib.hid lz
            clear la lb lz
            go_wp2
            go_loopw [15, 16, 17, 18] (fun i _ _ _ wr => CntR w5 (k + 1) i wr) (fun i _ _ _ _ => k + 1 - (intOf i).toNat)
            case atStart => exact ⟨0, rfl, Nat.zero_le _, Ext.refl _⟩
            case round =>
              obtain ⟨i, rfl, hi, hw⟩ := hrel
              by_cases hik : i < k + 1
              · obtain ⟨ba, oa, rfl, hca⟩ := (HRA3.out).2.2 (by omega)
                obtain ⟨bb, ob, rfl, hcb⟩ := (HRB3.out).2.2 (by omega)
                have hik' : (i : Int) < (k : Int) + 1 := by omega
                have HCA := Lib.hid hca
                have HCB := Lib.hid hcb
                clear hca hcb
                go_wp2
                go_loopw [16, 17, 18] (fun j _ _ wr2 => CntR w5 i j wr2) (fun j _ _ _ => i - (intOf j).toNat)
                case atStart => exact ⟨0, rfl, Nat.zero_le _, hw⟩
                case round =>
                  obtain ⟨j, rfl, hj, hw2⟩ := hrel
                  clear hw
                  by_cases hji : j < i
                  · have cai := hw2.cell (HCA.out i hik)
                    have caj := hw2.cell (HCA.out j (by omega))
                    have cbi := hw2.cell (HCB.out i hik)
                    have cbj := hw2.cell (HCB.out j (by omega))
                    have hj1 : j < k + 1 := by omega
                    obtain ⟨a0, a1⟩ := HBA.out i (by have := LA.out; omega)
                    obtain ⟨a2, a3⟩ := HBA.out j (by have := LA.out; omega)
                    obtain ⟨b0, b1⟩ := HBB.out i (by have := LB.out; omega)
                    obtain ⟨b2, b3⟩ := HBB.out j (by have := LB.out; omega)
                    obtain ⟨p1, p2, p3⟩ := A.out.2.2 i j (by have := LZ.out; omega) hji
                    obtain ⟨q1, q2, q3⟩ := B.out.2.2 i j (by have := LZ.out; omega) hji
                    have tb := tt_bd (at0 zs i - at0 zs j)
                    have wb := wt_bd x x0 (by omega)
                    have ub := us_bd x x0 (by omega)
                    have W := wait_enough x (tt (at0 zs i - at0 zs j)) (at0 av i - at0 av j) (at0 bv i - at0 bv j) x0 (by omega) tb.1 tb.2 p3 q2
                    have U := use_enough x (tt (at0 zs i - at0 zs j)) (at0 av i - at0 av j) (at0 bv i - at0 bv j) x0 (by omega) tb.1 tb.2 p2 q3
                    clear tb p1 p2 p3 q1 q2 q3
                    obtain ⟨wb0, wb1⟩ := wb
                    obtain ⟨ub0, ub1⟩ := ub
                    have hx0 : 0 ≤ x := x0
                    have hx9 : x ≤ 1099511627776 := by omega
                    by_cases c1 : wt x ≤ at0 av i - at0 av j
                    · have W1 := W c1
                      clear W
                      by_cases c2 : at0 av i - at0 av j ≤ us x
                      · have U1 := U c2
                        clear U
                        go_wp2
                        go_quiet (fail)
                        have hx2 := Ext.drewN hw2 nq
                        go_wp2_with (first | (go_at_call 14; refine (wait_t _ _ hx0 hx9).mono ?_; rintro e6 w6 ⟨rfl, hx6⟩; replace hx2 := Ext.trans hx2 hx6; clear hx6) | (go_at_call 16; refine (use_t _ _ hx0 hx9).mono ?_; rintro e7 w7 ⟨rfl, hx7⟩; replace hx2 := Ext.trans hx2 hx7; clear hx7))
                        go_roundw
                        case rel => exact ⟨j + 1, by go_num, by omega, hx2⟩
                        case measure => simp [intOf]; omega
                      · clear U
                        have c3 : us x < at0 av i - at0 av j := by omega
                        go_wp2
                        go_quiet (fail)
                        have hx2 := Ext.drewN hw2 nq
                        go_wp2_with (first | (go_at_call 14; refine (wait_t _ _ hx0 hx9).mono ?_; rintro e6 w6 ⟨rfl, hx6⟩; replace hx2 := Ext.trans hx2 hx6; clear hx6) | (go_at_call 16; refine (use_t _ _ hx0 hx9).mono ?_; rintro e7 w7 ⟨rfl, hx7⟩; replace hx2 := Ext.trans hx2 hx7; clear hx7))
                        go_roundw
                        case rel => exact ⟨j + 1, by go_num, by omega, hx2⟩
                        case measure => simp [intOf]; omega
                    · clear W
                      have c4 : at0 av i - at0 av j < wt x := by omega
                      by_cases c2 : at0 av i - at0 av j ≤ us x
                      · have U1 := U c2
                        clear U
                        go_wp2
                        go_quiet (fail)
                        have hx2 := Ext.drewN hw2 nq
                        go_wp2_with (first | (go_at_call 14; refine (wait_t _ _ hx0 hx9).mono ?_; rintro e6 w6 ⟨rfl, hx6⟩; replace hx2 := Ext.trans hx2 hx6; clear hx6) | (go_at_call 16; refine (use_t _ _ hx0 hx9).mono ?_; rintro e7 w7 ⟨rfl, hx7⟩; replace hx2 := Ext.trans hx2 hx7; clear hx7))
                        go_roundw
                        case rel => exact ⟨j + 1, by go_num, by omega, hx2⟩
                        case measure => simp [intOf]; omega
                      · clear U
                        have c3 : us x < at0 av i - at0 av j := by omega
                        go_wp2
                        go_quiet (fail)
                        have hx2 := Ext.drewN hw2 nq
                        go_wp2_with (first | (go_at_call 14; refine (wait_t _ _ hx0 hx9).mono ?_; rintro e6 w6 ⟨rfl, hx6⟩; replace hx2 := Ext.trans hx2 hx6; clear hx6) | (go_at_call 16; refine (use_t _ _ hx0 hx9).mono ?_; rintro e7 w7 ⟨rfl, hx7⟩; replace hx2 := Ext.trans hx2 hx7; clear hx7))
                        go_roundw
                        case rel => exact ⟨j + 1, by go_num, by omega, hx2⟩
                        case measure => simp [intOf]; omega
                  · go_wp2
                    go_roundw
                    case rel => exact ⟨i + 1, by go_num, by omega, hw2⟩
                    case measure => simp [intOf]; omega
              · go_wp2
                go_ret
                exact ⟨rfl, Ext.trans hx hw⟩
  · have h3 : 20 < n := by omega
    go_enter Try.func8, Try.ntmps8
    go_wp2_with (go_at_call 9; refine (head_any _).mono ?_; rintro e w1 ⟨rfl, hx1⟩)
    go_ret
    exact ⟨rfl, hx1⟩
end Go.Proofs.Ytncppgmmcfippaa.Clk
