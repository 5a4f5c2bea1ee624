/- Leases: who uses what it got only within its own time uses it alone, however clocks drift. -/
import Derived.Test.YtocnopgpdlfkjaaLeJ
import Derived.Test.YtocnopgpdlfkjaaClockP0
import Derived.Deep.RegionHeld3
import Derived.Deep.RegionLaw
import Derived.BigRegion
namespace Go.Proofs.Ytocnopgpdlfkjaa.Ls
open Go.RowKit Go.Proofs.Ytocnopgpdlfkjaa
set_option linter.unusedVariables false

theorem cu16 {x : Int} (h : (Lit.int .u16 x).wf = true) : 0 ≤ x ∧ x ≤ 65535 := by
  simp [Lit.wf, IntKind.min, IntKind.max, IntKind.signed, IntKind.bits] at h
  exact h
theorem cu8 {x : Int} (h : (Lit.int .u8 x).wf = true) : 0 ≤ x ∧ x ≤ 255 := by
  simp [Lit.wf, IntKind.min, IntKind.max, IntKind.signed, IntKind.bits] at h
  exact h
theorem info_le1 : (Try.prog.info? 26).map (·.size) = some 7 := by kernel_rfl
theorem one7 (a b c d e f g : Int) : (#[Value.int .i64 a, .int .i64 b, .int .i64 c, .int .i64 d, .int .i64 e, .int .i64 f, .int .i64 g] : Array Value).all (·.oneCell') = true := by simp [Value.oneCell']
/-- the times, gap by gap -/
def RealsC (zs : List Int) : Prop := ∀ j, j < zs.length → 0 ≤ at0 zs j ∧ at0 zs j ≤ 65536 * (j : Int)
def ClocksR (w : World) (n : Nat) (v i : Value) (wr : World) : Prop :=
  ∃ (k : Nat) (zs : List Int), i = .int .i64 k ∧ k ≤ n ∧ wr.ownsRow w.heap.size 3 1 v (k + 1) (zs.map (.int .i64)) ∧ Hid (zs.length = k + 1) ∧ Hid (RealsC zs) ∧ Ext w wr
theorem realsc_snoc {zs : List Int} {k : Nat} {g : Int} (hl : zs.length = k + 1) (h : RealsC zs) (h0 : 0 ≤ g) (h1 : g < 65536) : RealsC (zs ++ [at0 zs k + g]) := by
  intro j hj
  simp at hj
  by_cases e : j < zs.length
  · rw [at0_append_old _ _ _ e]; exact h j e
  · obtain rfl : j = zs.length := by omega
    have := h k (by omega)
    rw [at0_append_last]; omega

def mineL (b : Bool) : Le := if b then ⟨1, 5, 1, 0, 8, 0, 0⟩ else ⟨1, 5, 2, 0, 8, 0, 0⟩
def othL (b : Bool) : Le := if b then ⟨2, 5, 2, 7, 9, 0, 0⟩ else ⟨2, 5, 1, 4, 12, 0, 0⟩
structure Duo (mi ot : Le) : Prop where
  wm : LeWf mi
  wo : LeWf ot
  wf : (Lit.int .i64 mi.f).wf = true
  wt : (Lit.int .i64 mi.t).wf = true
  ask1 : ∀ T N : Int, 1 ≤ N → N ≤ 64 → askL [] T mi N = ([qu mi (T + Clk.wt N)], true)
  ask2 : ∀ T U N : Int, 1 ≤ N → N ≤ 64 → (askL [qu mi U] T ot N).2 = decide (U ≤ T)
  who2 : ∀ (T U N : Int) (K : List Int), 1 ≤ N → N ≤ 64 → WhoIs [qu mi U] T ot N K → (0 < K.length ↔ T < U)
  had : ∀ T U : Int, T < U → hadP (overL [qu mi U] T) 1 5 mi.k mi.f mi.t
  gone : ∀ T U : Int, U ≤ T → ¬ hadP (overL [qu mi U] T) 1 5 mi.k mi.f mi.t
theorem over_one (x : Le) (T : Int) : overL [x] T = if T < x.u then [x] else [] := by
  unfold overL
  by_cases h : T < x.u
  · rw [if_pos h]; simp [h]
  · rw [if_neg h]; simp [h]
theorem badm (b : Bool) (N : Int) (h1 : 1 ≤ N) (h2 : N ≤ 64) : badA (mineL b) N = false := by
  cases b <;> simp [badA, mineL, q0, qu, oneB] <;> omega
theorem bado (b : Bool) (N : Int) (h1 : 1 ≤ N) (h2 : N ≤ 64) : badA (othL b) N = false := by
  cases b <;> simp [badA, othL, q0, qu, oneB] <;> omega
theorem clash2 (b : Bool) (U : Int) : clashB (qu (mineL b) U) (othL b) = true := by cases b <;> simp [clashB, mineL, othL, qu]
theorem duo (b : Bool) : Duo (mineL b) (othL b) where
  wm := by cases b <;> simp [LeWf, mineL, Lit.wf, IntKind.min, IntKind.max, IntKind.signed, IntKind.bits]
  wo := by cases b <;> simp [LeWf, othL, Lit.wf, IntKind.min, IntKind.max, IntKind.signed, IntKind.bits]
  wf := by cases b <;> simp [mineL, Lit.wf, IntKind.min, IntKind.max, IntKind.signed, IntKind.bits]
  wt := by cases b <;> simp [mineL, Lit.wf, IntKind.min, IntKind.max, IntKind.signed, IntKind.bits]
  ask1 := fun T N h1 h2 => by
    have ha : Clk.aa N = N := by unfold Clk.aa; omega
    unfold askL
    rw [badm b N h1 h2, ha]
    simp [overL, againstL, othersL]
  ask2 := fun T U N h1 h2 => by
    unfold askL
    rw [bado b N h1 h2, over_one]
    have hU : (qu (mineL b) U).u = U := rfl
    rw [hU]
    by_cases h : T < U
    · rw [if_pos h]
      have : againstL [qu (mineL b) U] (othL b) = [qu (mineL b) U] := by unfold againstL; simp [clash2]
      rw [this]
      have h3 : ¬ U ≤ T := by omega
      simp [h3]
    · rw [if_neg h]
      have h3 : U ≤ T := by omega
      simp [againstL, othersL, h3]
  who2 := fun T U N K h1 h2 hw => by
    unfold WhoIs at hw
    rw [bado b N h1 h2, over_one] at hw
    have hU : (qu (mineL b) U).u = U := rfl
    rw [hU] at hw
    by_cases h : T < U
    · rw [if_pos h] at hw
      have e : againstL [qu (mineL b) U] (othL b) = [qu (mineL b) U] := by unfold againstL; simp [clash2]
      rw [e] at hw
      rw [if_neg (by simp)] at hw
      have := (hw.2.1 (qu (mineL b) U).c).2 (by simp [cls])
      exact ⟨fun _ => h, fun _ => List.length_pos_of_mem this⟩
    · rw [if_neg h] at hw
      rw [if_pos (by simp [againstL])] at hw
      subst hw
      simp; omega
  had := fun T U h => by
    rw [over_one]
    have hU : (qu (mineL b) U).u = U := rfl
    rw [hU, if_pos h]
    refine ⟨by cases b <;> simp [mineL], by cases b <;> simp [mineL], fun x h0 h1 => ⟨_, List.mem_singleton.2 rfl, ⟨by cases b <;> rfl, by cases b <;> rfl, .inl rfl⟩, h0, h1⟩⟩
  gone := fun T U h => by
    rw [over_one]
    have hU : (qu (mineL b) U).u = U := rfl
    rw [hU, if_neg (by omega)]
    rintro ⟨h0, _, h1⟩
    obtain ⟨y, hy, _⟩ := h1 _ (Int.le_refl _) h0.2.1
    simp at hy
def CntC (w7 : World) (k : Nat) (i : Value) (wr : World) : Prop := ∃ t : Nat, i = .int .i64 t ∧ 1 ≤ t ∧ t ≤ k + 1 ∧ Ext w7 wr
/-- where the server let go, the client's time is over -/
theorem clocks_end {zs av bv : List Int} {k i : Nat} {N : Int} (hz : zs.length = k + 1) (A : Clk.RightP zs av) (B : Clk.RightP zs bv) (h1 : 1 ≤ i) (hi : i < k + 1) (n1 : 1 ≤ N) (n2 : N ≤ 64) (h : at0 av 1 + Clk.wt N ≤ at0 av i) : at0 bv 0 + N ≤ at0 bv i := by
  have hwt : 1 ≤ Clk.wt N := by unfold Clk.wt; split <;> omega
  by_cases e : i = 1
  · subst e; omega
  obtain ⟨p1, p2, p3⟩ := A.2.2 i 1 (by omega) (by omega)
  obtain ⟨q1, q2, q3⟩ := B.2.2 i 1 (by omega) (by omega)
  obtain ⟨r1, r2, r3⟩ := B.2.2 1 0 (by omega) (by omega)
  have tb := Clk.tt_bd (at0 zs i - at0 zs 1)
  have tc := Clk.tt_bd (at0 zs 1 - at0 zs 0)
  have W := Clk.wait_enough N (Clk.tt (at0 zs i - at0 zs 1)) (at0 av i - at0 av 1) (at0 bv i - at0 bv 1) (by omega) (by omega) tb.1 tb.2 p3 q2 (by omega)
  have l0 : 0 ≤ Clk.lo (Clk.tt (at0 zs 1 - at0 zs 0)) := by unfold Clk.lo; omega
  omega
set_option maxRecDepth 100000 in
set_option maxHeartbeats 4000000 in
theorem clocks_walk {p q r : Option Addr} {n m l c d e : Nat} {gs xs ys : List Int} {lg : Int} {kb : Bool} {w : World} (hp : RowI .u16 w p n gs) (hq : RowI .u16 w q m xs) (hr : RowI .u16 w r l ys) (hg : ∀ x ∈ gs, (Lit.int .u16 x).wf = true) (hxs : ∀ x ∈ xs, (Lit.int .u16 x).wf = true) (hys : ∀ x ∈ ys, (Lit.int .u16 x).wf = true) (hl : (Lit.int .u8 lg).wf = true) : Calls Try.prog 8 #[.slice p n c, .slice q m d, .slice r l e, .int .u8 lg, .bool kb] w fun e w' => e = .returned (.bool true) ∧ Ext w w' := by
  obtain ⟨x0, x1⟩ := cu8 hl
  clear hl
  obtain ⟨i0, hi0, hz0, hz1, hz2⟩ := info_parts Clk.info_int
  have HP := Lib.hid hp
  have HQ := Lib.hid hq
  have HR := Lib.hid hr
  have HG := Lib.hid hg
  have HXS := Lib.hid hxs
  have HYS := Lib.hid hys
  have bn := hp.2.1
  clear hp hq hr hg hxs hys
  by_cases hn2 : n < 2
  · have hn2' : (n : Int) < 2 := by omega
    go_enter Try.func8, Try.ntmps8
    go_wp2_with (go_at_call 9; refine (head_v _).mono ?_; rintro e w1 ⟨rfl, hx1⟩)
    go_ret
    exact ⟨rfl, hx1⟩
  have hn2' : ¬ (n : Int) < 2 := by omega
  by_cases hn : 12 < n
  · have hn' : (12 : Int) < (n : Int) := by omega
    go_enter Try.func8, Try.ntmps8
    go_wp2_with (go_at_call 9; refine (head_v _).mono ?_; rintro e w1 ⟨rfl, hx1⟩)
    go_ret
    exact ⟨rfl, hx1⟩
  have hn' : ¬ (12 : Int) < (n : Int) := by omega
  go_enter Try.func8, Try.ntmps8
  go_wp2_with (go_at_call 9; refine (head_v _).mono ?_; rintro e w1 ⟨rfl, hx1⟩)
  go_loopw [12, 13] (fun v i wr => ClocksR w n v i wr) (fun _ i _ => n - (intOf i).toNat)
  case atStart => exact ⟨0, [0], rfl, Nat.zero_le _, own_lit w1 #[.int .i64 0] _ _ 1 1 hx1.size rfl (by decide), Lib.hid rfl, Lib.hid (fun j hj => by
      obtain rfl : j = 0 := by simpa using hj
      simp [at0]), Ext.trans hx1 (Ext.alloc _ _)⟩
  case round =>
    obtain ⟨k, zs, rfl, hk, hown, HL, HB, hx⟩ := hrel
    by_cases hlt : k < n
    · obtain ⟨b2, off2, rfl, hcx⟩ := (HP.out).2.2 (by omega)
      have cx := hx.cell (hcx k hlt)
      have gw : 0 ≤ at0 gs k ∧ at0 gs k ≤ 65535 := cu16 (HG.out _ (by
        unfold at0
        rw [List.getD_eq_getElem?_getD, List.getElem?_eq_getElem (by have := (HP.out).1; omega)]
        exact List.getElem_mem _))
      obtain ⟨gw0, gw1⟩ := gw
      obtain ⟨a, c', rfl, hrow⟩ := rowI_of_own hown (by omega)
      obtain ⟨b, off, rfl, hcz⟩ := hrow.2.2 (by omega)
      have cz := hcz k (by omega)
      have zb := HB.out k (by have := HL.out; omega)
      obtain ⟨zb0, zb1⟩ := zb
      clear hcx hcz hrow hx1
      have hk0 : (0 : Int) ≤ (k : Int) := by omega
      have hk1 : (k : Int) < ((k + 1 : Nat) : Int) := by omega
      have hk2 : (k : Int) < (n : Int) := by omega
      go_wp2
      have hk3 : (k : Int) < (k : Int) + 1 := by omega
      have gm0 : 0 ≤ (at0 gs k).tmod 200 := Int.tmod_nonneg _ gw0
      have gm1 : (at0 gs k).tmod 200 < 200 := Int.tmod_lt_of_pos _ (by omega)
      have ws1 : IntKind.i64.wrap (at0 gs k) = at0 gs k := IntWalk.i64_in _ (by omega)
      have ws3 : IntKind.i64.wrap ((at0 gs k).tmod 200) = (at0 gs k).tmod 200 := IntWalk.i64_in _ (by omega)
      have ws2 : IntKind.i64.wrap (at0 zs k + (at0 gs k).tmod 200) = at0 zs k + (at0 gs k).tmod 200 := IntWalk.i64_in _ (by omega)
      go_region_law (refine step_append_lies _ (by rfl) _ _ _ (by rfl) w.heap.size 3 i0 (.int .i64 0) 1 8 Try.underlying30 hi0 hz0 hz1 hz2 rfl (by decide) _ (k + 1) _ (by rfl) ((hown.alloc _).drew) ⟨wr.heap.size, 0, none⟩ 1 1 [.int .i64 (at0 zs k + (at0 gs k).tmod 200)] (by rfl) (by rfl) (World.news_of_block (cs := #[.int .i64 (at0 zs k + (at0 gs k).tmod 200)]) (t := 3) (fr := (0, 0)) (heap_alloc_new wr _)) (by intro u hu; simp at hu; subst hu; rfl) (by decide) (by unfold maxLen; omega) (by omega) (by have := hx.size; simp; omega) (wr.heap.size + 1) (by simp) ?_; intro gg cap w2 hown1 hgrow hat hlt1)
      all_goals
        have X : Ext w w2 := below_grown (Ext.trans hx (Ext.drew (Ext.alloc _ _))) (Nat.le_refl _) hgrow ((hown.alloc _).drew)
        clear hgrow hat hlt1 ws1 ws2 ws3 hown
        go_wp2
        go_roundw
        case rel => exact ⟨k + 1, zs ++ [at0 zs k + (at0 gs k).tmod 200], by go_num, by omega, by have := hown1; simpa using this, Lib.hid (by simp; exact HL.out), Lib.hid (realsc_snoc HL.out HB.out gm0 (by omega)), X⟩
        case measure => simp [intOf]; omega
    · obtain rfl : k = n := by omega
      obtain ⟨a, c', rfl, hrow⟩ := rowI_of_own hown (by omega)
      have HROW := Lib.hid hrow
      have sm : Clk.SmallT zs := fun j => by
        by_cases hj : j < zs.length
        · have h1 := HB.out j hj
          have h2 := HL.out
          omega
        · rw [show at0 zs j = 0 by unfold at0; rw [List.getD_eq_getElem?_getD, List.getElem?_eq_none (by omega)]; rfl]; omega
      have SM := Lib.hid sm
      clear hrow hown sm hx1
      go_wp2_with fail
      refine (Clk.shows_any _ _ _ _ _ _ zs xs _ HROW.out (HQ.out.ext hx) HXS.out (by omega) SM.out).mono ?_
      rintro e2 w2 ⟨av, pa, ca, rfl, hra, hba, hx2⟩
      replace hx := Ext.trans hx hx2
      have HRA := Lib.hid hra
      have HBA := Lib.hid hba
      have HR1 := Lib.hid (HROW.out.ext hx2)
      clear hra hba hx2
      go_wp2_with fail
      refine (Clk.shows_any _ _ _ _ _ _ zs ys _ HR1.out (HR.out.ext hx) HYS.out (by omega) SM.out).mono ?_
      rintro e3 w3 ⟨bv, pb, cb, rfl, hrb, hbb, hx3⟩
      replace hx := Ext.trans hx hx3
      have HRB := Lib.hid hrb
      have HBB := Lib.hid hbb
      have HRA1 := Lib.hid (HRA.out.ext hx3)
      have HR2 := Lib.hid (HR1.out.ext hx3)
      clear hrb hbb hx3 HR1 HRA HROW
      go_wp2_with fail
      refine (Clk.right_any _ _ _ _ _ _ zs av _ HR2.out HRA1.out).mono ?_
      rintro e4 w4 ⟨b4, rfl, k4, hx4⟩
      replace hx := Ext.trans hx hx4
      have K4 := Lib.hid k4
      have HRA2 := Lib.hid (HRA1.out.ext hx4)
      have HRB2 := Lib.hid (HRB.out.ext hx4)
      have HR3 := Lib.hid (HR2.out.ext hx4)
      clear k4 hx4 HRA1 HRB HR2
      cases b4
      · go_wp2
        go_ret
        exact ⟨rfl, hx⟩
      go_wp2_with fail
      refine (Clk.right_any _ _ _ _ _ _ zs bv _ HR3.out HRB2.out).mono ?_
      rintro e5 w5 ⟨b5, rfl, k5, hx5⟩
      replace hx := Ext.trans hx hx5
      have K5 := Lib.hid k5
      have HRA3 := Lib.hid (HRA2.out.ext hx5)
      have HRB3 := Lib.hid (HRB2.out.ext hx5)
      clear k5 hx5 HRA2 HRB2 HR3
      cases b5
      · go_wp2
        go_ret
        exact ⟨rfl, hx⟩
      have A := Lib.hid (K4.out.1 (by simp))
      have B := Lib.hid (K5.out.1 (by simp))
      clear K4 K5 HP HQ HR HG HXS HYS
      have LA : Hid (av.length = k + 1) := Lib.hid HRA3.out.1
      have LB : Hid (bv.length = k + 1) := Lib.hid HRB3.out.1
      have LZ := HL
      obtain ⟨N, hN⟩ : ∃ N, 1 + lg % 64 = N := ⟨_, rfl⟩
      have hN0 : 1 ≤ N := by omega
      have hN1 : N ≤ 64 := by omega
      have hy := Ext.refl w5
      cases kb
      · go_wp2_with fail
        refine (askq_any _ _ _ _ _).mono ?_
        rintro e6 w66 ⟨rfl, hx6⟩
        replace hx := Ext.trans hx hx6; replace hy := Ext.trans hy hx6; clear hx6
        go_wp2_with fail
        refine (askq_any _ _ _ _ _).mono ?_
        rintro e6 w6 ⟨rfl, hx6⟩
        replace hx := Ext.trans hx hx6; replace hy := Ext.trans hy hx6; clear hx6
        have hsz : (w6.alloc (.cells #[.int .i64 1, .int .i64 5, .int .i64 2, .int .i64 0, .int .i64 8, .int .i64 0, .int .i64 0] 26)).heap.size = w6.heap.size + 1 := by simp
        have HA : Hid (((w6.alloc (.cells #[.int .i64 1, .int .i64 5, .int .i64 2, .int .i64 0, .int .i64 8, .int .i64 0, .int .i64 0] 26)).alloc (.cells #[.int .i64 2, .int .i64 5, .int .i64 1, .int .i64 4, .int .i64 12, .int .i64 0, .int .i64 0] 26)).heap[w6.heap.size]? = some (.cells #[.int .i64 1, .int .i64 5, .int .i64 2, .int .i64 0, .int .i64 8, .int .i64 0, .int .i64 0] 26 (0, 0))) := Lib.hid (heap_ext (heap_alloc_new w6 _) (Ext.alloc _ _))
        have HB : Hid (((w6.alloc (.cells #[.int .i64 1, .int .i64 5, .int .i64 2, .int .i64 0, .int .i64 8, .int .i64 0, .int .i64 0] 26)).alloc (.cells #[.int .i64 2, .int .i64 5, .int .i64 1, .int .i64 4, .int .i64 12, .int .i64 0, .int .i64 0] 26)).heap[w6.heap.size + 1]? = some (.cells #[.int .i64 2, .int .i64 5, .int .i64 1, .int .i64 4, .int .i64 12, .int .i64 0, .int .i64 0] 26 (0, 0))) := Lib.hid (by rw [← hsz]; exact heap_alloc_new _ _)
        have HX : Hid (Ext w6 ((w6.alloc (.cells #[.int .i64 1, .int .i64 5, .int .i64 2, .int .i64 0, .int .i64 8, .int .i64 0, .int .i64 0] 26)).alloc (.cells #[.int .i64 2, .int .i64 5, .int .i64 1, .int .i64 4, .int .i64 12, .int .i64 0, .int .i64 0] 26))) := Lib.hid (Ext.trans (Ext.alloc _ _) (Ext.alloc _ _))
        clear hsz
        go_wp2
        have HA3 := HA
        have HB3 := HB
        generalize ((w6.alloc (.cells #[.int .i64 1, .int .i64 5, .int .i64 2, .int .i64 0, .int .i64 8, .int .i64 0, .int .i64 0] 26)).alloc (.cells #[.int .i64 2, .int .i64 5, .int .i64 1, .int .i64 4, .int .i64 12, .int .i64 0, .int .i64 0] 26)) = W0 at HA3 HB3 HX ⊢
        have HW0 : Hid (Ext w W0) := Lib.hid (Ext.trans hx HX.out)
        have HY0 : Hid (Ext w5 W0) := Lib.hid (Ext.trans hy HX.out)
        clear HX hx hy HA HB
        have HC : Hid (∀ W', Ext W0 W' → (W'.cell? ⟨w6.heap.size, 0, none⟩ = some (.int .i64 (mineL false).c) ∧ W'.cell? ⟨w6.heap.size, 1, none⟩ = some (.int .i64 (mineL false).i) ∧ W'.cell? ⟨w6.heap.size, 2, none⟩ = some (.int .i64 (mineL false).k) ∧ W'.cell? ⟨w6.heap.size, 3, none⟩ = some (.int .i64 (mineL false).f) ∧ W'.cell? ⟨w6.heap.size, 4, none⟩ = some (.int .i64 (mineL false).t) ∧ W'.cell? ⟨w6.heap.size, 5, none⟩ = some (.int .i64 (mineL false).u) ∧ W'.cell? ⟨w6.heap.size, 6, none⟩ = some (.int .i64 (mineL false).e)) ∧ (W'.cell? ⟨(w6.heap.size + 1), 0, none⟩ = some (.int .i64 (othL false).c) ∧ W'.cell? ⟨(w6.heap.size + 1), 1, none⟩ = some (.int .i64 (othL false).i) ∧ W'.cell? ⟨(w6.heap.size + 1), 2, none⟩ = some (.int .i64 (othL false).k) ∧ W'.cell? ⟨(w6.heap.size + 1), 3, none⟩ = some (.int .i64 (othL false).f) ∧ W'.cell? ⟨(w6.heap.size + 1), 4, none⟩ = some (.int .i64 (othL false).t) ∧ W'.cell? ⟨(w6.heap.size + 1), 5, none⟩ = some (.int .i64 (othL false).u) ∧ W'.cell? ⟨(w6.heap.size + 1), 6, none⟩ = some (.int .i64 (othL false).e))) := Lib.hid (fun W' h => ⟨⟨h.cell (cell_of_row _ _ 0 _ _ _ HA3.out), h.cell (cell_of_row _ _ 1 _ _ _ HA3.out), h.cell (cell_of_row _ _ 2 _ _ _ HA3.out), h.cell (cell_of_row _ _ 3 _ _ _ HA3.out), h.cell (cell_of_row _ _ 4 _ _ _ HA3.out), h.cell (cell_of_row _ _ 5 _ _ _ HA3.out), h.cell (cell_of_row _ _ 6 _ _ _ HA3.out)⟩, ⟨h.cell (cell_of_row _ _ 0 _ _ _ HB3.out), h.cell (cell_of_row _ _ 1 _ _ _ HB3.out), h.cell (cell_of_row _ _ 2 _ _ _ HB3.out), h.cell (cell_of_row _ _ 3 _ _ _ HB3.out), h.cell (cell_of_row _ _ 4 _ _ _ HB3.out), h.cell (cell_of_row _ _ 5 _ _ _ HB3.out), h.cell (cell_of_row _ _ 6 _ _ _ HB3.out)⟩⟩)
        have HD := Lib.hid (duo false)
        generalize mineL false = mi at HC HD
        generalize othL false = ot at HC HD
        clear HA3 HB3
        obtain ⟨ba, oa, rfl, hca⟩ := (HRA3.out).2.2 (by omega)
        obtain ⟨bb, ob, rfl, hcb⟩ := (HRB3.out).2.2 (by omega)
        have HCA : Hid (∀ i, i < k + 1 → ∀ W', Ext W0 W' → W'.cell? ⟨ba, oa + i, none⟩ = some (.int .i64 (at0 av i))) := Lib.hid (fun i hi W' h => h.cell (HY0.out.cell (hca i hi)))
        have HCB : Hid (∀ i, i < k + 1 → ∀ W', Ext W0 W' → W'.cell? ⟨bb, ob + i, none⟩ = some (.int .i64 (at0 bv i))) := Lib.hid (fun i hi W' h => h.cell (HY0.out.cell (hcb i hi)))
        have HAB : Hid (∀ i, i < k + 1 → 0 ≤ at0 av i ∧ at0 av i ≤ 4400000000000) := Lib.hid (fun i hi => by have := HBA.out i (by have := LA.out; omega); omega)
        have HBBD : Hid (∀ i, i < k + 1 → 0 ≤ at0 bv i ∧ at0 bv i ≤ 4400000000000) := Lib.hid (fun i hi => by have := HBB.out i (by have := LB.out; omega); omega)
        clear hca hcb
        have HWTN : Hid (1 ≤ Clk.wt N ∧ Clk.wt N ≤ 100) := Lib.hid (by unfold Clk.wt; split <;> omega)
        have hk1 : (1 : Int) < (k : Int) + 1 := by omega
        have hs1 := HAB.out 1 (by omega)
        obtain ⟨T1, hT1⟩ : ∃ T1, at0 av 1 = T1 := ⟨_, rfl⟩
        have HC1 : Hid (∀ W', Ext W0 W' → W'.cell? ⟨ba, oa + 1, none⟩ = some (.int .i64 T1)) := Lib.hid (fun W' h => by rw [← hT1]; exact HCA.out 1 (by omega) W' h)
        have HSS : Hid (∀ w', Ext W0 w' → w'.cell? ⟨ba, oa + 1, none⟩ = some (.int .i64 T1) ∧ w'.cell? ⟨w6.heap.size, 0, none⟩ = some (.int .i64 mi.c) ∧ w'.cell? ⟨w6.heap.size, 1, none⟩ = some (.int .i64 mi.i) ∧ w'.cell? ⟨w6.heap.size, 2, none⟩ = some (.int .i64 mi.k) ∧ w'.cell? ⟨w6.heap.size, 3, none⟩ = some (.int .i64 mi.f) ∧ w'.cell? ⟨w6.heap.size, 4, none⟩ = some (.int .i64 mi.t) ∧ w'.cell? ⟨w6.heap.size, 5, none⟩ = some (.int .i64 mi.u) ∧ w'.cell? ⟨w6.heap.size, 6, none⟩ = some (.int .i64 mi.e)) := Lib.hid (fun w' h => ⟨HC1.out w' h, (HC.out w' h).1⟩)
        rw [hT1] at hs1
        have HT1 := Lib.hid hT1
        clear hT1
        have hzz : Ext W0 W0.drew := Ext.drew (Ext.refl _)
        go_region_held3 (fun w' => w'.cell? ⟨ba, oa + 1, none⟩ = some (.int .i64 T1) ∧ w'.cell? ⟨w6.heap.size, 0, none⟩ = some (.int .i64 mi.c) ∧ w'.cell? ⟨w6.heap.size, 1, none⟩ = some (.int .i64 mi.i) ∧ w'.cell? ⟨w6.heap.size, 2, none⟩ = some (.int .i64 mi.k) ∧ w'.cell? ⟨w6.heap.size, 3, none⟩ = some (.int .i64 mi.f) ∧ w'.cell? ⟨w6.heap.size, 4, none⟩ = some (.int .i64 mi.t) ∧ w'.cell? ⟨w6.heap.size, 5, none⟩ = some (.int .i64 mi.u) ∧ w'.cell? ⟨w6.heap.size, 6, none⟩ = some (.int .i64 mi.e)) ((refine HSS.out _ ?_; first | (with_reducible exact hzz))) (first | (go_at_call 13; refine (ask_v _ [] (T1) mi N _ (Lay.Sl.nil _ _) (by simp) HD.out.wm (by omega)).mono ?_; rintro e w7 ⟨⟨vw7, kk, K, r, rfl, hr, hs, hk2, hwho⟩, hx9⟩; replace hzz := Ext.trans hzz hx9; clear hx9; obtain ⟨L2, g⟩ := r; simp only at hs ⊢; have HR9 := Lib.hid hr.symm; have HS9 := Lib.hid hs; have HK9 := Lib.hid hk2; have HWH := hwho; clear hr hs hk2 hwho))
        obtain ⟨rfl, rfl⟩ : L2 = [qu mi (T1 + Clk.wt N)] ∧ g = true := Prod.mk.inj (HR9.out.symm.trans (HD.out.ask1 T1 N hN0 hN1))
        have HS7 := HS9
        have HZ7 := Lib.hid hzz
        clear hzz HS9 HR9 HK9 HWH HSS HC1
        go_wp2
        go_loopw [22, 23, 24, 25, 26, 27] (fun i _ _ _ _ _ wr => CntC w7 k i wr) (fun i _ _ _ _ _ _ => k + 1 - (intOf i).toNat)
        case atStart => exact ⟨1, rfl, by omega, by omega, Ext.refl _⟩
        case round =>
          obtain ⟨i, rfl, hi1, hi, hw⟩ := hrel
          by_cases hik : i < k + 1
          · have hik' : (i : Int) < (k : Int) + 1 := by omega
            have hik0 : (0 : Int) ≤ (i : Int) := by omega
            have hk0 : (0 : Int) < (k : Int) + 1 := by omega
            have cb := HCB.out i hik wr (Ext.trans HZ7.out hw)
            have cb0 : wr.cell? ⟨bb, ob, none⟩ = some (.int .i64 (at0 bv 0)) := by have := HCB.out 0 (by omega) wr (Ext.trans HZ7.out hw); simpa using this
            have hwsN : IntKind.i64.wrap (at0 bv 0 + N) = at0 bv 0 + N := IntWalk.i64_in _ (by have := HBBD.out 0 (by omega); omega)
            by_cases hu : at0 av i < T1 + Clk.wt N
            · by_cases hus : at0 bv i < at0 bv 0 + N
              · have HSI : Hid (∀ w', Ext W0 w' → w'.cell? ⟨ba, oa + i, none⟩ = some (.int .i64 (at0 av i)) ∧ w'.cell? ⟨w6.heap.size, 0, none⟩ = some (.int .i64 mi.c) ∧ w'.cell? ⟨w6.heap.size, 1, none⟩ = some (.int .i64 mi.i) ∧ w'.cell? ⟨w6.heap.size, 2, none⟩ = some (.int .i64 mi.k) ∧ w'.cell? ⟨w6.heap.size, 3, none⟩ = some (.int .i64 mi.f) ∧ w'.cell? ⟨w6.heap.size, 4, none⟩ = some (.int .i64 mi.t) ∧ w'.cell? ⟨w6.heap.size, 5, none⟩ = some (.int .i64 mi.u) ∧ w'.cell? ⟨w6.heap.size, 6, none⟩ = some (.int .i64 mi.e) ∧ w'.cell? ⟨(w6.heap.size + 1), 0, none⟩ = some (.int .i64 ot.c) ∧ w'.cell? ⟨(w6.heap.size + 1), 1, none⟩ = some (.int .i64 ot.i) ∧ w'.cell? ⟨(w6.heap.size + 1), 2, none⟩ = some (.int .i64 ot.k) ∧ w'.cell? ⟨(w6.heap.size + 1), 3, none⟩ = some (.int .i64 ot.f) ∧ w'.cell? ⟨(w6.heap.size + 1), 4, none⟩ = some (.int .i64 ot.t) ∧ w'.cell? ⟨(w6.heap.size + 1), 5, none⟩ = some (.int .i64 ot.u) ∧ w'.cell? ⟨(w6.heap.size + 1), 6, none⟩ = some (.int .i64 ot.e)) := Lib.hid (fun w' h => by obtain ⟨⟨a0, a1, a2, a3, a4, a5, a6⟩, b0⟩ := HC.out w' h; exact ⟨HCA.out i hik w' h, a0, a1, a2, a3, a4, a5, a6, b0⟩)
                go_wp2
                go_quiet (fail)
                generalize hw4 : wr.drewN nq = w4
                have hz4 : Ext w7 w4 := by rw [← hw4]; exact Ext.drewN hw nq
                clear hw4 hw
                go_wp2
                have HVS := Lib.hid (HS7.out.ext hz4)
                have hzz : Ext W0 w4.drew := Ext.trans HZ7.out (Ext.trans hz4 (Ext.drew (Ext.refl _)))
                have hyy : Ext w7 w4.drew := Ext.trans hz4 (Ext.drew (Ext.refl _))
                go_region_held3 (fun w' => w'.cell? ⟨ba, oa + i, none⟩ = some (.int .i64 (at0 av i)) ∧ w'.cell? ⟨w6.heap.size, 0, none⟩ = some (.int .i64 mi.c) ∧ w'.cell? ⟨w6.heap.size, 1, none⟩ = some (.int .i64 mi.i) ∧ w'.cell? ⟨w6.heap.size, 2, none⟩ = some (.int .i64 mi.k) ∧ w'.cell? ⟨w6.heap.size, 3, none⟩ = some (.int .i64 mi.f) ∧ w'.cell? ⟨w6.heap.size, 4, none⟩ = some (.int .i64 mi.t) ∧ w'.cell? ⟨w6.heap.size, 5, none⟩ = some (.int .i64 mi.u) ∧ w'.cell? ⟨w6.heap.size, 6, none⟩ = some (.int .i64 mi.e) ∧ w'.cell? ⟨(w6.heap.size + 1), 0, none⟩ = some (.int .i64 ot.c) ∧ w'.cell? ⟨(w6.heap.size + 1), 1, none⟩ = some (.int .i64 ot.i) ∧ w'.cell? ⟨(w6.heap.size + 1), 2, none⟩ = some (.int .i64 ot.k) ∧ w'.cell? ⟨(w6.heap.size + 1), 3, none⟩ = some (.int .i64 ot.f) ∧ w'.cell? ⟨(w6.heap.size + 1), 4, none⟩ = some (.int .i64 ot.t) ∧ w'.cell? ⟨(w6.heap.size + 1), 5, none⟩ = some (.int .i64 ot.u) ∧ w'.cell? ⟨(w6.heap.size + 1), 6, none⟩ = some (.int .i64 ot.e)) ((refine HSI.out _ ?_; first | (with_reducible exact hzz))) (first | (go_at_call 17; refine (over_v _ [qu mi (T1 + Clk.wt N)] (at0 av i) _ (HS7.out.ext hyy) (by simp)).mono ?_; rintro e w8 ⟨⟨v8, rfl, hown⟩, hx9⟩; have HV8 := Lib.hid hown.sl; replace hzz := Ext.trans hzz hx9; replace hyy := Ext.trans hyy hx9; clear hx9 hown) | (go_at_call 21; refine (has_w _ (overL [qu mi (T1 + Clk.wt N)] (at0 av i)) 1 5 mi.k mi.f mi.t true _ HV8.out (by rw [over_one]; split <;> simp) HD.out.wf HD.out.wt (by simp [(HD.out.had _ _ hu)])).mono ?_; rintro e w9 ⟨rfl, hx9⟩; replace hzz := Ext.trans hzz hx9; replace hyy := Ext.trans hyy hx9; clear hx9))
                clear HV8 HVS
                have hz5 := hzz
                have hy5 := hyy
                clear hzz hyy
                go_wp2
                have hzz : Ext W0 w9.drew := Ext.trans hz5 (Ext.drew (Ext.refl _))
                have hyy : Ext w7 w9.drew := Ext.trans hy5 (Ext.drew (Ext.refl _))
                go_region_held3 (fun w' => w'.cell? ⟨ba, oa + i, none⟩ = some (.int .i64 (at0 av i)) ∧ w'.cell? ⟨w6.heap.size, 0, none⟩ = some (.int .i64 mi.c) ∧ w'.cell? ⟨w6.heap.size, 1, none⟩ = some (.int .i64 mi.i) ∧ w'.cell? ⟨w6.heap.size, 2, none⟩ = some (.int .i64 mi.k) ∧ w'.cell? ⟨w6.heap.size, 3, none⟩ = some (.int .i64 mi.f) ∧ w'.cell? ⟨w6.heap.size, 4, none⟩ = some (.int .i64 mi.t) ∧ w'.cell? ⟨w6.heap.size, 5, none⟩ = some (.int .i64 mi.u) ∧ w'.cell? ⟨w6.heap.size, 6, none⟩ = some (.int .i64 mi.e) ∧ w'.cell? ⟨(w6.heap.size + 1), 0, none⟩ = some (.int .i64 ot.c) ∧ w'.cell? ⟨(w6.heap.size + 1), 1, none⟩ = some (.int .i64 ot.i) ∧ w'.cell? ⟨(w6.heap.size + 1), 2, none⟩ = some (.int .i64 ot.k) ∧ w'.cell? ⟨(w6.heap.size + 1), 3, none⟩ = some (.int .i64 ot.f) ∧ w'.cell? ⟨(w6.heap.size + 1), 4, none⟩ = some (.int .i64 ot.t) ∧ w'.cell? ⟨(w6.heap.size + 1), 5, none⟩ = some (.int .i64 ot.u) ∧ w'.cell? ⟨(w6.heap.size + 1), 6, none⟩ = some (.int .i64 ot.e)) ((refine HSI.out _ ?_; first | (with_reducible exact hzz))) (first | (go_at_call 13; refine (ask_v _ [qu mi (T1 + Clk.wt N)] (at0 av i) ot N _ (HS7.out.ext hyy) (by simp) HD.out.wo (by have := HAB.out i hik; omega)).mono ?_; rintro e w12 ⟨⟨vw12, kk, K, r, rfl, hr, hs, hk2, hwho⟩, hx9⟩; replace hzz := Ext.trans hzz hx9; replace hyy := Ext.trans hyy hx9; clear hx9; obtain ⟨L2, g⟩ := r; simp only at hs ⊢; have HR9 := Lib.hid hr.symm; have HS9 := Lib.hid hs; have HK9 := Lib.hid hk2; have HWH := hwho; clear hr hs hk2 hwho))
                have hg : g = false := by
                  have h2 := HD.out.ask2 (at0 av i) (T1 + Clk.wt N) N hN0 hN1
                  have h3 : (askL [qu mi (T1 + Clk.wt N)] (at0 av i) ot N).2 = g := by rw [HR9.out]
                  rw [← h3, h2]
                  exact decide_eq_false (by omega)
                have hkk := HD.out.who2 (at0 av i) (T1 + Clk.wt N) N K hN0 hN1 HWH.out
                obtain ⟨pk, nk, ck, rfl, hrw, _⟩ := HK9.out
                have hnk : K.length = nk := hrw.1
                rw [hnk] at hkk
                subst hg
                have hk0 : (0 : Int) < (nk : Int) := by have := hkk.2 hu; omega
                have hd : decide ((0 : Int) < (nk : Int)) = true := by exact decide_eq_true hk0
                clear hrw hkk hnk hz5 hy5 hzz
                go_wp2
                go_roundw
                case rel => exact ⟨i + 1, by go_num, by omega, by omega, hyy⟩
                case measure => simp [intOf]; omega
              · have HSI : Hid (∀ w', Ext W0 w' → w'.cell? ⟨ba, oa + i, none⟩ = some (.int .i64 (at0 av i)) ∧ w'.cell? ⟨w6.heap.size, 0, none⟩ = some (.int .i64 mi.c) ∧ w'.cell? ⟨w6.heap.size, 1, none⟩ = some (.int .i64 mi.i) ∧ w'.cell? ⟨w6.heap.size, 2, none⟩ = some (.int .i64 mi.k) ∧ w'.cell? ⟨w6.heap.size, 3, none⟩ = some (.int .i64 mi.f) ∧ w'.cell? ⟨w6.heap.size, 4, none⟩ = some (.int .i64 mi.t) ∧ w'.cell? ⟨w6.heap.size, 5, none⟩ = some (.int .i64 mi.u) ∧ w'.cell? ⟨w6.heap.size, 6, none⟩ = some (.int .i64 mi.e) ∧ w'.cell? ⟨(w6.heap.size + 1), 0, none⟩ = some (.int .i64 ot.c) ∧ w'.cell? ⟨(w6.heap.size + 1), 1, none⟩ = some (.int .i64 ot.i) ∧ w'.cell? ⟨(w6.heap.size + 1), 2, none⟩ = some (.int .i64 ot.k) ∧ w'.cell? ⟨(w6.heap.size + 1), 3, none⟩ = some (.int .i64 ot.f) ∧ w'.cell? ⟨(w6.heap.size + 1), 4, none⟩ = some (.int .i64 ot.t) ∧ w'.cell? ⟨(w6.heap.size + 1), 5, none⟩ = some (.int .i64 ot.u) ∧ w'.cell? ⟨(w6.heap.size + 1), 6, none⟩ = some (.int .i64 ot.e)) := Lib.hid (fun w' h => by obtain ⟨⟨a0, a1, a2, a3, a4, a5, a6⟩, b0⟩ := HC.out w' h; exact ⟨HCA.out i hik w' h, a0, a1, a2, a3, a4, a5, a6, b0⟩)
                go_wp2
                go_quiet (fail)
                generalize hw4 : wr.drewN nq = w4
                have hz4 : Ext w7 w4 := by rw [← hw4]; exact Ext.drewN hw nq
                clear hw4 hw
                go_wp2
                have HVS := Lib.hid (HS7.out.ext hz4)
                have hzz : Ext W0 w4.drew := Ext.trans HZ7.out (Ext.trans hz4 (Ext.drew (Ext.refl _)))
                have hyy : Ext w7 w4.drew := Ext.trans hz4 (Ext.drew (Ext.refl _))
                go_region_held3 (fun w' => w'.cell? ⟨ba, oa + i, none⟩ = some (.int .i64 (at0 av i)) ∧ w'.cell? ⟨w6.heap.size, 0, none⟩ = some (.int .i64 mi.c) ∧ w'.cell? ⟨w6.heap.size, 1, none⟩ = some (.int .i64 mi.i) ∧ w'.cell? ⟨w6.heap.size, 2, none⟩ = some (.int .i64 mi.k) ∧ w'.cell? ⟨w6.heap.size, 3, none⟩ = some (.int .i64 mi.f) ∧ w'.cell? ⟨w6.heap.size, 4, none⟩ = some (.int .i64 mi.t) ∧ w'.cell? ⟨w6.heap.size, 5, none⟩ = some (.int .i64 mi.u) ∧ w'.cell? ⟨w6.heap.size, 6, none⟩ = some (.int .i64 mi.e) ∧ w'.cell? ⟨(w6.heap.size + 1), 0, none⟩ = some (.int .i64 ot.c) ∧ w'.cell? ⟨(w6.heap.size + 1), 1, none⟩ = some (.int .i64 ot.i) ∧ w'.cell? ⟨(w6.heap.size + 1), 2, none⟩ = some (.int .i64 ot.k) ∧ w'.cell? ⟨(w6.heap.size + 1), 3, none⟩ = some (.int .i64 ot.f) ∧ w'.cell? ⟨(w6.heap.size + 1), 4, none⟩ = some (.int .i64 ot.t) ∧ w'.cell? ⟨(w6.heap.size + 1), 5, none⟩ = some (.int .i64 ot.u) ∧ w'.cell? ⟨(w6.heap.size + 1), 6, none⟩ = some (.int .i64 ot.e)) ((refine HSI.out _ ?_; first | (with_reducible exact hzz))) (first | (go_at_call 17; refine (over_v _ [qu mi (T1 + Clk.wt N)] (at0 av i) _ (HS7.out.ext hyy) (by simp)).mono ?_; rintro e w8 ⟨⟨v8, rfl, hown⟩, hx9⟩; have HV8 := Lib.hid hown.sl; replace hzz := Ext.trans hzz hx9; replace hyy := Ext.trans hyy hx9; clear hx9 hown) | (go_at_call 21; refine (has_w _ (overL [qu mi (T1 + Clk.wt N)] (at0 av i)) 1 5 mi.k mi.f mi.t true _ HV8.out (by rw [over_one]; split <;> simp) HD.out.wf HD.out.wt (by simp [(HD.out.had _ _ hu)])).mono ?_; rintro e w9 ⟨rfl, hx9⟩; replace hzz := Ext.trans hzz hx9; replace hyy := Ext.trans hyy hx9; clear hx9))
                clear HV8 HVS
                have hz5 := hzz
                have hy5 := hyy
                clear hzz hyy
                go_wp2
                have hzz : Ext W0 w9.drew := Ext.trans hz5 (Ext.drew (Ext.refl _))
                have hyy : Ext w7 w9.drew := Ext.trans hy5 (Ext.drew (Ext.refl _))
                go_region_held3 (fun w' => w'.cell? ⟨ba, oa + i, none⟩ = some (.int .i64 (at0 av i)) ∧ w'.cell? ⟨w6.heap.size, 0, none⟩ = some (.int .i64 mi.c) ∧ w'.cell? ⟨w6.heap.size, 1, none⟩ = some (.int .i64 mi.i) ∧ w'.cell? ⟨w6.heap.size, 2, none⟩ = some (.int .i64 mi.k) ∧ w'.cell? ⟨w6.heap.size, 3, none⟩ = some (.int .i64 mi.f) ∧ w'.cell? ⟨w6.heap.size, 4, none⟩ = some (.int .i64 mi.t) ∧ w'.cell? ⟨w6.heap.size, 5, none⟩ = some (.int .i64 mi.u) ∧ w'.cell? ⟨w6.heap.size, 6, none⟩ = some (.int .i64 mi.e) ∧ w'.cell? ⟨(w6.heap.size + 1), 0, none⟩ = some (.int .i64 ot.c) ∧ w'.cell? ⟨(w6.heap.size + 1), 1, none⟩ = some (.int .i64 ot.i) ∧ w'.cell? ⟨(w6.heap.size + 1), 2, none⟩ = some (.int .i64 ot.k) ∧ w'.cell? ⟨(w6.heap.size + 1), 3, none⟩ = some (.int .i64 ot.f) ∧ w'.cell? ⟨(w6.heap.size + 1), 4, none⟩ = some (.int .i64 ot.t) ∧ w'.cell? ⟨(w6.heap.size + 1), 5, none⟩ = some (.int .i64 ot.u) ∧ w'.cell? ⟨(w6.heap.size + 1), 6, none⟩ = some (.int .i64 ot.e)) ((refine HSI.out _ ?_; first | (with_reducible exact hzz))) (first | (go_at_call 13; refine (ask_v _ [qu mi (T1 + Clk.wt N)] (at0 av i) ot N _ (HS7.out.ext hyy) (by simp) HD.out.wo (by have := HAB.out i hik; omega)).mono ?_; rintro e w12 ⟨⟨vw12, kk, K, r, rfl, hr, hs, hk2, hwho⟩, hx9⟩; replace hzz := Ext.trans hzz hx9; replace hyy := Ext.trans hyy hx9; clear hx9; obtain ⟨L2, g⟩ := r; simp only at hs ⊢; have HR9 := Lib.hid hr.symm; have HS9 := Lib.hid hs; have HK9 := Lib.hid hk2; have HWH := hwho; clear hr hs hk2 hwho))
                have hg : g = false := by
                  have h2 := HD.out.ask2 (at0 av i) (T1 + Clk.wt N) N hN0 hN1
                  have h3 : (askL [qu mi (T1 + Clk.wt N)] (at0 av i) ot N).2 = g := by rw [HR9.out]
                  rw [← h3, h2]
                  exact decide_eq_false (by omega)
                have hkk := HD.out.who2 (at0 av i) (T1 + Clk.wt N) N K hN0 hN1 HWH.out
                obtain ⟨pk, nk, ck, rfl, hrw, _⟩ := HK9.out
                have hnk : K.length = nk := hrw.1
                rw [hnk] at hkk
                subst hg
                have hk0 : (0 : Int) < (nk : Int) := by have := hkk.2 hu; omega
                have hd : decide ((0 : Int) < (nk : Int)) = true := by exact decide_eq_true hk0
                clear hrw hkk hnk hz5 hy5 hzz
                go_wp2
                go_roundw
                case rel => exact ⟨i + 1, by go_num, by omega, by omega, hyy⟩
                case measure => simp [intOf]; omega
            · have hus : ¬ at0 bv i < at0 bv 0 + N := by have := clocks_end LZ.out A.out B.out hi1 hik hN0 hN1 (by rw [HT1.out]; omega); omega
              replace hu : T1 + Clk.wt N ≤ at0 av i := by omega
              have HSI : Hid (∀ w', Ext W0 w' → w'.cell? ⟨ba, oa + i, none⟩ = some (.int .i64 (at0 av i)) ∧ w'.cell? ⟨w6.heap.size, 0, none⟩ = some (.int .i64 mi.c) ∧ w'.cell? ⟨w6.heap.size, 1, none⟩ = some (.int .i64 mi.i) ∧ w'.cell? ⟨w6.heap.size, 2, none⟩ = some (.int .i64 mi.k) ∧ w'.cell? ⟨w6.heap.size, 3, none⟩ = some (.int .i64 mi.f) ∧ w'.cell? ⟨w6.heap.size, 4, none⟩ = some (.int .i64 mi.t) ∧ w'.cell? ⟨w6.heap.size, 5, none⟩ = some (.int .i64 mi.u) ∧ w'.cell? ⟨w6.heap.size, 6, none⟩ = some (.int .i64 mi.e) ∧ w'.cell? ⟨(w6.heap.size + 1), 0, none⟩ = some (.int .i64 ot.c) ∧ w'.cell? ⟨(w6.heap.size + 1), 1, none⟩ = some (.int .i64 ot.i) ∧ w'.cell? ⟨(w6.heap.size + 1), 2, none⟩ = some (.int .i64 ot.k) ∧ w'.cell? ⟨(w6.heap.size + 1), 3, none⟩ = some (.int .i64 ot.f) ∧ w'.cell? ⟨(w6.heap.size + 1), 4, none⟩ = some (.int .i64 ot.t) ∧ w'.cell? ⟨(w6.heap.size + 1), 5, none⟩ = some (.int .i64 ot.u) ∧ w'.cell? ⟨(w6.heap.size + 1), 6, none⟩ = some (.int .i64 ot.e)) := Lib.hid (fun w' h => by obtain ⟨⟨a0, a1, a2, a3, a4, a5, a6⟩, b0⟩ := HC.out w' h; exact ⟨HCA.out i hik w' h, a0, a1, a2, a3, a4, a5, a6, b0⟩)
              go_wp2
              go_quiet (fail)
              generalize hw4 : wr.drewN nq = w4
              have hz4 : Ext w7 w4 := by rw [← hw4]; exact Ext.drewN hw nq
              clear hw4 hw
              go_wp2
              have HVS := Lib.hid (HS7.out.ext hz4)
              have hzz : Ext W0 w4.drew := Ext.trans HZ7.out (Ext.trans hz4 (Ext.drew (Ext.refl _)))
              have hyy : Ext w7 w4.drew := Ext.trans hz4 (Ext.drew (Ext.refl _))
              go_region_held3 (fun w' => w'.cell? ⟨ba, oa + i, none⟩ = some (.int .i64 (at0 av i)) ∧ w'.cell? ⟨w6.heap.size, 0, none⟩ = some (.int .i64 mi.c) ∧ w'.cell? ⟨w6.heap.size, 1, none⟩ = some (.int .i64 mi.i) ∧ w'.cell? ⟨w6.heap.size, 2, none⟩ = some (.int .i64 mi.k) ∧ w'.cell? ⟨w6.heap.size, 3, none⟩ = some (.int .i64 mi.f) ∧ w'.cell? ⟨w6.heap.size, 4, none⟩ = some (.int .i64 mi.t) ∧ w'.cell? ⟨w6.heap.size, 5, none⟩ = some (.int .i64 mi.u) ∧ w'.cell? ⟨w6.heap.size, 6, none⟩ = some (.int .i64 mi.e) ∧ w'.cell? ⟨(w6.heap.size + 1), 0, none⟩ = some (.int .i64 ot.c) ∧ w'.cell? ⟨(w6.heap.size + 1), 1, none⟩ = some (.int .i64 ot.i) ∧ w'.cell? ⟨(w6.heap.size + 1), 2, none⟩ = some (.int .i64 ot.k) ∧ w'.cell? ⟨(w6.heap.size + 1), 3, none⟩ = some (.int .i64 ot.f) ∧ w'.cell? ⟨(w6.heap.size + 1), 4, none⟩ = some (.int .i64 ot.t) ∧ w'.cell? ⟨(w6.heap.size + 1), 5, none⟩ = some (.int .i64 ot.u) ∧ w'.cell? ⟨(w6.heap.size + 1), 6, none⟩ = some (.int .i64 ot.e)) ((refine HSI.out _ ?_; first | (with_reducible exact hzz))) (first | (go_at_call 17; refine (over_v _ [qu mi (T1 + Clk.wt N)] (at0 av i) _ (HS7.out.ext hyy) (by simp)).mono ?_; rintro e w8 ⟨⟨v8, rfl, hown⟩, hx9⟩; have HV8 := Lib.hid hown.sl; replace hzz := Ext.trans hzz hx9; replace hyy := Ext.trans hyy hx9; clear hx9 hown) | (go_at_call 21; refine (has_w _ (overL [qu mi (T1 + Clk.wt N)] (at0 av i)) 1 5 mi.k mi.f mi.t false _ HV8.out (by rw [over_one]; split <;> simp) HD.out.wf HD.out.wt (by simp [(HD.out.gone _ _ hu)])).mono ?_; rintro e w9 ⟨rfl, hx9⟩; replace hzz := Ext.trans hzz hx9; replace hyy := Ext.trans hyy hx9; clear hx9))
              clear HV8 HVS
              have hz5 := hzz
              have hy5 := hyy
              clear hzz hyy
              go_wp2
              have hzz : Ext W0 w9.drew := Ext.trans hz5 (Ext.drew (Ext.refl _))
              have hyy : Ext w7 w9.drew := Ext.trans hy5 (Ext.drew (Ext.refl _))
              go_region_held3 (fun w' => w'.cell? ⟨ba, oa + i, none⟩ = some (.int .i64 (at0 av i)) ∧ w'.cell? ⟨w6.heap.size, 0, none⟩ = some (.int .i64 mi.c) ∧ w'.cell? ⟨w6.heap.size, 1, none⟩ = some (.int .i64 mi.i) ∧ w'.cell? ⟨w6.heap.size, 2, none⟩ = some (.int .i64 mi.k) ∧ w'.cell? ⟨w6.heap.size, 3, none⟩ = some (.int .i64 mi.f) ∧ w'.cell? ⟨w6.heap.size, 4, none⟩ = some (.int .i64 mi.t) ∧ w'.cell? ⟨w6.heap.size, 5, none⟩ = some (.int .i64 mi.u) ∧ w'.cell? ⟨w6.heap.size, 6, none⟩ = some (.int .i64 mi.e) ∧ w'.cell? ⟨(w6.heap.size + 1), 0, none⟩ = some (.int .i64 ot.c) ∧ w'.cell? ⟨(w6.heap.size + 1), 1, none⟩ = some (.int .i64 ot.i) ∧ w'.cell? ⟨(w6.heap.size + 1), 2, none⟩ = some (.int .i64 ot.k) ∧ w'.cell? ⟨(w6.heap.size + 1), 3, none⟩ = some (.int .i64 ot.f) ∧ w'.cell? ⟨(w6.heap.size + 1), 4, none⟩ = some (.int .i64 ot.t) ∧ w'.cell? ⟨(w6.heap.size + 1), 5, none⟩ = some (.int .i64 ot.u) ∧ w'.cell? ⟨(w6.heap.size + 1), 6, none⟩ = some (.int .i64 ot.e)) ((refine HSI.out _ ?_; first | (with_reducible exact hzz))) (first | (go_at_call 13; refine (ask_v _ [qu mi (T1 + Clk.wt N)] (at0 av i) ot N _ (HS7.out.ext hyy) (by simp) HD.out.wo (by have := HAB.out i hik; omega)).mono ?_; rintro e w12 ⟨⟨vw12, kk, K, r, rfl, hr, hs, hk2, hwho⟩, hx9⟩; replace hzz := Ext.trans hzz hx9; replace hyy := Ext.trans hyy hx9; clear hx9; obtain ⟨L2, g⟩ := r; simp only at hs ⊢; have HR9 := Lib.hid hr.symm; have HS9 := Lib.hid hs; have HK9 := Lib.hid hk2; have HWH := hwho; clear hr hs hk2 hwho))
              have hg : g = true := by
                have h2 := HD.out.ask2 (at0 av i) (T1 + Clk.wt N) N hN0 hN1
                have h3 : (askL [qu mi (T1 + Clk.wt N)] (at0 av i) ot N).2 = g := by rw [HR9.out]
                rw [← h3, h2]
                exact decide_eq_true (by omega)
              have hkk := HD.out.who2 (at0 av i) (T1 + Clk.wt N) N K hN0 hN1 HWH.out
              obtain ⟨pk, nk, ck, rfl, hrw, _⟩ := HK9.out
              have hnk : K.length = nk := hrw.1
              rw [hnk] at hkk
              subst hg
              obtain rfl : nk = 0 := by have := mt hkk.1 (by omega); omega
              have hd : decide ((0 : Int) < ((0 : Nat) : Int)) = false := by rfl
              clear hrw hkk hnk hz5 hy5 hzz
              go_wp2
              go_roundw
              case rel => exact ⟨i + 1, by go_num, by omega, by omega, hyy⟩
              case measure => simp [intOf]; omega
          · go_wp2
            go_ret
            exact ⟨rfl, Ext.trans HW0.out (Ext.trans HZ7.out hw)⟩
      · go_wp2_with fail
        refine (askq_any _ _ _ _ _).mono ?_
        rintro e6 w66 ⟨rfl, hx6⟩
        replace hx := Ext.trans hx hx6; replace hy := Ext.trans hy hx6; clear hx6
        go_wp2_with fail
        refine (askq_any _ _ _ _ _).mono ?_
        rintro e6 w6 ⟨rfl, hx6⟩
        replace hx := Ext.trans hx hx6; replace hy := Ext.trans hy hx6; clear hx6
        have hsz : (w6.alloc (.cells #[.int .i64 1, .int .i64 5, .int .i64 2, .int .i64 0, .int .i64 8, .int .i64 0, .int .i64 0] 26)).heap.size = w6.heap.size + 1 := by simp
        have HA : Hid (((w6.alloc (.cells #[.int .i64 1, .int .i64 5, .int .i64 2, .int .i64 0, .int .i64 8, .int .i64 0, .int .i64 0] 26)).alloc (.cells #[.int .i64 2, .int .i64 5, .int .i64 1, .int .i64 4, .int .i64 12, .int .i64 0, .int .i64 0] 26)).heap[w6.heap.size]? = some (.cells #[.int .i64 1, .int .i64 5, .int .i64 2, .int .i64 0, .int .i64 8, .int .i64 0, .int .i64 0] 26 (0, 0))) := Lib.hid (heap_ext (heap_alloc_new w6 _) (Ext.alloc _ _))
        have HB : Hid (((w6.alloc (.cells #[.int .i64 1, .int .i64 5, .int .i64 2, .int .i64 0, .int .i64 8, .int .i64 0, .int .i64 0] 26)).alloc (.cells #[.int .i64 2, .int .i64 5, .int .i64 1, .int .i64 4, .int .i64 12, .int .i64 0, .int .i64 0] 26)).heap[w6.heap.size + 1]? = some (.cells #[.int .i64 2, .int .i64 5, .int .i64 1, .int .i64 4, .int .i64 12, .int .i64 0, .int .i64 0] 26 (0, 0))) := Lib.hid (by rw [← hsz]; exact heap_alloc_new _ _)
        have HX : Hid (Ext w6 ((w6.alloc (.cells #[.int .i64 1, .int .i64 5, .int .i64 2, .int .i64 0, .int .i64 8, .int .i64 0, .int .i64 0] 26)).alloc (.cells #[.int .i64 2, .int .i64 5, .int .i64 1, .int .i64 4, .int .i64 12, .int .i64 0, .int .i64 0] 26))) := Lib.hid (Ext.trans (Ext.alloc _ _) (Ext.alloc _ _))
        clear hsz
        go_wp2_with fail
        refine (askq_any _ _ _ _ _).mono ?_
        rintro e6 w7 ⟨rfl, hx6⟩
        replace HA := Lib.hid (heap_ext HA.out hx6)
        replace HB := Lib.hid (heap_ext HB.out hx6)
        replace HX := Lib.hid (Ext.trans HX.out hx6)
        clear hx6
        go_wp2_with fail
        refine (askq_any _ _ _ _ _).mono ?_
        rintro e6 w8 ⟨rfl, hx6⟩
        replace HA := Lib.hid (heap_ext HA.out hx6)
        replace HB := Lib.hid (heap_ext HB.out hx6)
        replace HX := Lib.hid (Ext.trans HX.out hx6)
        clear hx6
        have HA2 : Hid ((w8.setRow w6.heap.size #[.int .i64 1, .int .i64 5, .int .i64 1, .int .i64 0, .int .i64 8, .int .i64 0, .int .i64 0]).heap[w6.heap.size]? = some (.cells #[.int .i64 1, .int .i64 5, .int .i64 1, .int .i64 0, .int .i64 8, .int .i64 0, .int .i64 0] 26 (0, 0))) := Lib.hid (setRow_heap _ _ _ _ _ _ HA.out)
        have HB2 : Hid ((w8.setRow w6.heap.size #[.int .i64 1, .int .i64 5, .int .i64 1, .int .i64 0, .int .i64 8, .int .i64 0, .int .i64 0]).heap[w6.heap.size + 1]? = some (.cells #[.int .i64 2, .int .i64 5, .int .i64 1, .int .i64 4, .int .i64 12, .int .i64 0, .int .i64 0] 26 (0, 0))) := Lib.hid (by rw [setRow_other _ _ _ _ (by omega)]; exact HB.out)
        have HX2 : Hid (Ext w6 (w8.setRow w6.heap.size #[.int .i64 1, .int .i64 5, .int .i64 1, .int .i64 0, .int .i64 8, .int .i64 0, .int .i64 0])) := Lib.hid (ext_setRow HX.out (Nat.le_refl _) _)
        have HA3 : Hid (((w8.setRow w6.heap.size #[.int .i64 1, .int .i64 5, .int .i64 1, .int .i64 0, .int .i64 8, .int .i64 0, .int .i64 0]).setRow (w6.heap.size + 1) #[.int .i64 2, .int .i64 5, .int .i64 2, .int .i64 7, .int .i64 9, .int .i64 0, .int .i64 0]).heap[w6.heap.size]? = some (.cells #[.int .i64 1, .int .i64 5, .int .i64 1, .int .i64 0, .int .i64 8, .int .i64 0, .int .i64 0] 26 (0, 0))) := Lib.hid (by rw [setRow_other _ _ _ _ (by omega)]; exact HA2.out)
        have HB3 : Hid (((w8.setRow w6.heap.size #[.int .i64 1, .int .i64 5, .int .i64 1, .int .i64 0, .int .i64 8, .int .i64 0, .int .i64 0]).setRow (w6.heap.size + 1) #[.int .i64 2, .int .i64 5, .int .i64 2, .int .i64 7, .int .i64 9, .int .i64 0, .int .i64 0]).heap[w6.heap.size + 1]? = some (.cells #[.int .i64 2, .int .i64 5, .int .i64 2, .int .i64 7, .int .i64 9, .int .i64 0, .int .i64 0] 26 (0, 0))) := Lib.hid (setRow_heap _ _ _ _ _ _ HB2.out)
        have HX3 : Hid (Ext w6 ((w8.setRow w6.heap.size #[.int .i64 1, .int .i64 5, .int .i64 1, .int .i64 0, .int .i64 8, .int .i64 0, .int .i64 0]).setRow (w6.heap.size + 1) #[.int .i64 2, .int .i64 5, .int .i64 2, .int .i64 7, .int .i64 9, .int .i64 0, .int .i64 0])) := Lib.hid (ext_setRow HX2.out (Nat.le_succ _) _)
        go_wp2_with (first | ((with_reducible refine wpList_store_row (o := ⟨none, .store 26 (.tmp 17) (.tmp 83), _, _, _, _⟩) ?_ 26 (.tmp 17) (.tmp 83) ?_ (w6.heap.size) #[.int .i64 1, .int .i64 5, .int .i64 1, .int .i64 0, .int .i64 8, .int .i64 0, .int .i64 0] ?_ ?_ 26 #[.int .i64 1, .int .i64 5, .int .i64 2, .int .i64 0, .int .i64 8, .int .i64 0, .int .i64 0] ?_ ?_ ?_ ?_ ?_); (exact rfl); (exact rfl); (exact rfl); (exact rfl); (exact HA.out); (exact info_le1); (exact rfl); (exact one7 _ _ _ _ _ _ _)) | ((with_reducible refine wpList_store_row (o := ⟨none, .store 26 (.tmp 18) (.tmp 84), _, _, _, _⟩) ?_ 26 (.tmp 18) (.tmp 84) ?_ (w6.heap.size + 1) #[.int .i64 2, .int .i64 5, .int .i64 2, .int .i64 7, .int .i64 9, .int .i64 0, .int .i64 0] ?_ ?_ 26 #[.int .i64 2, .int .i64 5, .int .i64 1, .int .i64 4, .int .i64 12, .int .i64 0, .int .i64 0] ?_ ?_ ?_ ?_ ?_); (exact rfl); (exact rfl); (exact rfl); (exact rfl); (exact HB2.out); (exact info_le1); (exact rfl); (exact one7 _ _ _ _ _ _ _)))
        clear HA HB HX HA2 HB2 HX2
        generalize (w8.setRow w6.heap.size #[.int .i64 1, .int .i64 5, .int .i64 1, .int .i64 0, .int .i64 8, .int .i64 0, .int .i64 0]).setRow (w6.heap.size + 1) #[.int .i64 2, .int .i64 5, .int .i64 2, .int .i64 7, .int .i64 9, .int .i64 0, .int .i64 0] = W0 at HA3 HB3 HX3 ⊢
        have HW0 : Hid (Ext w W0) := Lib.hid (Ext.trans hx HX3.out)
        have HY0 : Hid (Ext w5 W0) := Lib.hid (Ext.trans hy HX3.out)
        clear HX3 hx hy
        have HC : Hid (∀ W', Ext W0 W' → (W'.cell? ⟨w6.heap.size, 0, none⟩ = some (.int .i64 (mineL true).c) ∧ W'.cell? ⟨w6.heap.size, 1, none⟩ = some (.int .i64 (mineL true).i) ∧ W'.cell? ⟨w6.heap.size, 2, none⟩ = some (.int .i64 (mineL true).k) ∧ W'.cell? ⟨w6.heap.size, 3, none⟩ = some (.int .i64 (mineL true).f) ∧ W'.cell? ⟨w6.heap.size, 4, none⟩ = some (.int .i64 (mineL true).t) ∧ W'.cell? ⟨w6.heap.size, 5, none⟩ = some (.int .i64 (mineL true).u) ∧ W'.cell? ⟨w6.heap.size, 6, none⟩ = some (.int .i64 (mineL true).e)) ∧ (W'.cell? ⟨(w6.heap.size + 1), 0, none⟩ = some (.int .i64 (othL true).c) ∧ W'.cell? ⟨(w6.heap.size + 1), 1, none⟩ = some (.int .i64 (othL true).i) ∧ W'.cell? ⟨(w6.heap.size + 1), 2, none⟩ = some (.int .i64 (othL true).k) ∧ W'.cell? ⟨(w6.heap.size + 1), 3, none⟩ = some (.int .i64 (othL true).f) ∧ W'.cell? ⟨(w6.heap.size + 1), 4, none⟩ = some (.int .i64 (othL true).t) ∧ W'.cell? ⟨(w6.heap.size + 1), 5, none⟩ = some (.int .i64 (othL true).u) ∧ W'.cell? ⟨(w6.heap.size + 1), 6, none⟩ = some (.int .i64 (othL true).e))) := Lib.hid (fun W' h => ⟨⟨h.cell (cell_of_row _ _ 0 _ _ _ HA3.out), h.cell (cell_of_row _ _ 1 _ _ _ HA3.out), h.cell (cell_of_row _ _ 2 _ _ _ HA3.out), h.cell (cell_of_row _ _ 3 _ _ _ HA3.out), h.cell (cell_of_row _ _ 4 _ _ _ HA3.out), h.cell (cell_of_row _ _ 5 _ _ _ HA3.out), h.cell (cell_of_row _ _ 6 _ _ _ HA3.out)⟩, ⟨h.cell (cell_of_row _ _ 0 _ _ _ HB3.out), h.cell (cell_of_row _ _ 1 _ _ _ HB3.out), h.cell (cell_of_row _ _ 2 _ _ _ HB3.out), h.cell (cell_of_row _ _ 3 _ _ _ HB3.out), h.cell (cell_of_row _ _ 4 _ _ _ HB3.out), h.cell (cell_of_row _ _ 5 _ _ _ HB3.out), h.cell (cell_of_row _ _ 6 _ _ _ HB3.out)⟩⟩)
        have HD := Lib.hid (duo true)
        generalize mineL true = mi at HC HD
        generalize othL true = ot at HC HD
        clear HA3 HB3
        obtain ⟨ba, oa, rfl, hca⟩ := (HRA3.out).2.2 (by omega)
        obtain ⟨bb, ob, rfl, hcb⟩ := (HRB3.out).2.2 (by omega)
        have HCA : Hid (∀ i, i < k + 1 → ∀ W', Ext W0 W' → W'.cell? ⟨ba, oa + i, none⟩ = some (.int .i64 (at0 av i))) := Lib.hid (fun i hi W' h => h.cell (HY0.out.cell (hca i hi)))
        have HCB : Hid (∀ i, i < k + 1 → ∀ W', Ext W0 W' → W'.cell? ⟨bb, ob + i, none⟩ = some (.int .i64 (at0 bv i))) := Lib.hid (fun i hi W' h => h.cell (HY0.out.cell (hcb i hi)))
        have HAB : Hid (∀ i, i < k + 1 → 0 ≤ at0 av i ∧ at0 av i ≤ 4400000000000) := Lib.hid (fun i hi => by have := HBA.out i (by have := LA.out; omega); omega)
        have HBBD : Hid (∀ i, i < k + 1 → 0 ≤ at0 bv i ∧ at0 bv i ≤ 4400000000000) := Lib.hid (fun i hi => by have := HBB.out i (by have := LB.out; omega); omega)
        clear hca hcb
        have HWTN : Hid (1 ≤ Clk.wt N ∧ Clk.wt N ≤ 100) := Lib.hid (by unfold Clk.wt; split <;> omega)
        have hk1 : (1 : Int) < (k : Int) + 1 := by omega
        have hs1 := HAB.out 1 (by omega)
        obtain ⟨T1, hT1⟩ : ∃ T1, at0 av 1 = T1 := ⟨_, rfl⟩
        have HC1 : Hid (∀ W', Ext W0 W' → W'.cell? ⟨ba, oa + 1, none⟩ = some (.int .i64 T1)) := Lib.hid (fun W' h => by rw [← hT1]; exact HCA.out 1 (by omega) W' h)
        have HSS : Hid (∀ w', Ext W0 w' → w'.cell? ⟨ba, oa + 1, none⟩ = some (.int .i64 T1) ∧ w'.cell? ⟨w6.heap.size, 0, none⟩ = some (.int .i64 mi.c) ∧ w'.cell? ⟨w6.heap.size, 1, none⟩ = some (.int .i64 mi.i) ∧ w'.cell? ⟨w6.heap.size, 2, none⟩ = some (.int .i64 mi.k) ∧ w'.cell? ⟨w6.heap.size, 3, none⟩ = some (.int .i64 mi.f) ∧ w'.cell? ⟨w6.heap.size, 4, none⟩ = some (.int .i64 mi.t) ∧ w'.cell? ⟨w6.heap.size, 5, none⟩ = some (.int .i64 mi.u) ∧ w'.cell? ⟨w6.heap.size, 6, none⟩ = some (.int .i64 mi.e)) := Lib.hid (fun w' h => ⟨HC1.out w' h, (HC.out w' h).1⟩)
        rw [hT1] at hs1
        have HT1 := Lib.hid hT1
        clear hT1
        have hzz : Ext W0 W0.drew := Ext.drew (Ext.refl _)
        go_region_held3 (fun w' => w'.cell? ⟨ba, oa + 1, none⟩ = some (.int .i64 T1) ∧ w'.cell? ⟨w6.heap.size, 0, none⟩ = some (.int .i64 mi.c) ∧ w'.cell? ⟨w6.heap.size, 1, none⟩ = some (.int .i64 mi.i) ∧ w'.cell? ⟨w6.heap.size, 2, none⟩ = some (.int .i64 mi.k) ∧ w'.cell? ⟨w6.heap.size, 3, none⟩ = some (.int .i64 mi.f) ∧ w'.cell? ⟨w6.heap.size, 4, none⟩ = some (.int .i64 mi.t) ∧ w'.cell? ⟨w6.heap.size, 5, none⟩ = some (.int .i64 mi.u) ∧ w'.cell? ⟨w6.heap.size, 6, none⟩ = some (.int .i64 mi.e)) ((refine HSS.out _ ?_; first | (with_reducible exact hzz))) (first | (go_at_call 13; refine (ask_v _ [] (T1) mi N _ (Lay.Sl.nil _ _) (by simp) HD.out.wm (by omega)).mono ?_; rintro e w7 ⟨⟨vw7, kk, K, r, rfl, hr, hs, hk2, hwho⟩, hx9⟩; replace hzz := Ext.trans hzz hx9; clear hx9; obtain ⟨L2, g⟩ := r; simp only at hs ⊢; have HR9 := Lib.hid hr.symm; have HS9 := Lib.hid hs; have HK9 := Lib.hid hk2; have HWH := hwho; clear hr hs hk2 hwho))
        obtain ⟨rfl, rfl⟩ : L2 = [qu mi (T1 + Clk.wt N)] ∧ g = true := Prod.mk.inj (HR9.out.symm.trans (HD.out.ask1 T1 N hN0 hN1))
        have HS7 := HS9
        have HZ7 := Lib.hid hzz
        clear hzz HS9 HR9 HK9 HWH HSS HC1
        go_wp2
        go_loopw [22, 23, 24, 25, 26, 27] (fun i _ _ _ _ _ wr => CntC w7 k i wr) (fun i _ _ _ _ _ _ => k + 1 - (intOf i).toNat)
        case atStart => exact ⟨1, rfl, by omega, by omega, Ext.refl _⟩
        case round =>
          obtain ⟨i, rfl, hi1, hi, hw⟩ := hrel
          by_cases hik : i < k + 1
          · have hik' : (i : Int) < (k : Int) + 1 := by omega
            have hik0 : (0 : Int) ≤ (i : Int) := by omega
            have hk0 : (0 : Int) < (k : Int) + 1 := by omega
            have cb := HCB.out i hik wr (Ext.trans HZ7.out hw)
            have cb0 : wr.cell? ⟨bb, ob, none⟩ = some (.int .i64 (at0 bv 0)) := by have := HCB.out 0 (by omega) wr (Ext.trans HZ7.out hw); simpa using this
            have hwsN : IntKind.i64.wrap (at0 bv 0 + N) = at0 bv 0 + N := IntWalk.i64_in _ (by have := HBBD.out 0 (by omega); omega)
            by_cases hu : at0 av i < T1 + Clk.wt N
            · by_cases hus : at0 bv i < at0 bv 0 + N
              · have HSI : Hid (∀ w', Ext W0 w' → w'.cell? ⟨ba, oa + i, none⟩ = some (.int .i64 (at0 av i)) ∧ w'.cell? ⟨w6.heap.size, 0, none⟩ = some (.int .i64 mi.c) ∧ w'.cell? ⟨w6.heap.size, 1, none⟩ = some (.int .i64 mi.i) ∧ w'.cell? ⟨w6.heap.size, 2, none⟩ = some (.int .i64 mi.k) ∧ w'.cell? ⟨w6.heap.size, 3, none⟩ = some (.int .i64 mi.f) ∧ w'.cell? ⟨w6.heap.size, 4, none⟩ = some (.int .i64 mi.t) ∧ w'.cell? ⟨w6.heap.size, 5, none⟩ = some (.int .i64 mi.u) ∧ w'.cell? ⟨w6.heap.size, 6, none⟩ = some (.int .i64 mi.e) ∧ w'.cell? ⟨(w6.heap.size + 1), 0, none⟩ = some (.int .i64 ot.c) ∧ w'.cell? ⟨(w6.heap.size + 1), 1, none⟩ = some (.int .i64 ot.i) ∧ w'.cell? ⟨(w6.heap.size + 1), 2, none⟩ = some (.int .i64 ot.k) ∧ w'.cell? ⟨(w6.heap.size + 1), 3, none⟩ = some (.int .i64 ot.f) ∧ w'.cell? ⟨(w6.heap.size + 1), 4, none⟩ = some (.int .i64 ot.t) ∧ w'.cell? ⟨(w6.heap.size + 1), 5, none⟩ = some (.int .i64 ot.u) ∧ w'.cell? ⟨(w6.heap.size + 1), 6, none⟩ = some (.int .i64 ot.e)) := Lib.hid (fun w' h => by obtain ⟨⟨a0, a1, a2, a3, a4, a5, a6⟩, b0⟩ := HC.out w' h; exact ⟨HCA.out i hik w' h, a0, a1, a2, a3, a4, a5, a6, b0⟩)
                go_wp2
                go_quiet (fail)
                generalize hw4 : wr.drewN nq = w4
                have hz4 : Ext w7 w4 := by rw [← hw4]; exact Ext.drewN hw nq
                clear hw4 hw
                go_wp2
                have HVS := Lib.hid (HS7.out.ext hz4)
                have hzz : Ext W0 w4.drew := Ext.trans HZ7.out (Ext.trans hz4 (Ext.drew (Ext.refl _)))
                have hyy : Ext w7 w4.drew := Ext.trans hz4 (Ext.drew (Ext.refl _))
                go_region_held3 (fun w' => w'.cell? ⟨ba, oa + i, none⟩ = some (.int .i64 (at0 av i)) ∧ w'.cell? ⟨w6.heap.size, 0, none⟩ = some (.int .i64 mi.c) ∧ w'.cell? ⟨w6.heap.size, 1, none⟩ = some (.int .i64 mi.i) ∧ w'.cell? ⟨w6.heap.size, 2, none⟩ = some (.int .i64 mi.k) ∧ w'.cell? ⟨w6.heap.size, 3, none⟩ = some (.int .i64 mi.f) ∧ w'.cell? ⟨w6.heap.size, 4, none⟩ = some (.int .i64 mi.t) ∧ w'.cell? ⟨w6.heap.size, 5, none⟩ = some (.int .i64 mi.u) ∧ w'.cell? ⟨w6.heap.size, 6, none⟩ = some (.int .i64 mi.e) ∧ w'.cell? ⟨(w6.heap.size + 1), 0, none⟩ = some (.int .i64 ot.c) ∧ w'.cell? ⟨(w6.heap.size + 1), 1, none⟩ = some (.int .i64 ot.i) ∧ w'.cell? ⟨(w6.heap.size + 1), 2, none⟩ = some (.int .i64 ot.k) ∧ w'.cell? ⟨(w6.heap.size + 1), 3, none⟩ = some (.int .i64 ot.f) ∧ w'.cell? ⟨(w6.heap.size + 1), 4, none⟩ = some (.int .i64 ot.t) ∧ w'.cell? ⟨(w6.heap.size + 1), 5, none⟩ = some (.int .i64 ot.u) ∧ w'.cell? ⟨(w6.heap.size + 1), 6, none⟩ = some (.int .i64 ot.e)) ((refine HSI.out _ ?_; first | (with_reducible exact hzz))) (first | (go_at_call 17; refine (over_v _ [qu mi (T1 + Clk.wt N)] (at0 av i) _ (HS7.out.ext hyy) (by simp)).mono ?_; rintro e w8 ⟨⟨v8, rfl, hown⟩, hx9⟩; have HV8 := Lib.hid hown.sl; replace hzz := Ext.trans hzz hx9; replace hyy := Ext.trans hyy hx9; clear hx9 hown) | (go_at_call 21; refine (has_w _ (overL [qu mi (T1 + Clk.wt N)] (at0 av i)) 1 5 mi.k mi.f mi.t true _ HV8.out (by rw [over_one]; split <;> simp) HD.out.wf HD.out.wt (by simp [(HD.out.had _ _ hu)])).mono ?_; rintro e w9 ⟨rfl, hx9⟩; replace hzz := Ext.trans hzz hx9; replace hyy := Ext.trans hyy hx9; clear hx9))
                clear HV8 HVS
                have hz5 := hzz
                have hy5 := hyy
                clear hzz hyy
                go_wp2
                have hzz : Ext W0 w9.drew := Ext.trans hz5 (Ext.drew (Ext.refl _))
                have hyy : Ext w7 w9.drew := Ext.trans hy5 (Ext.drew (Ext.refl _))
                go_region_held3 (fun w' => w'.cell? ⟨ba, oa + i, none⟩ = some (.int .i64 (at0 av i)) ∧ w'.cell? ⟨w6.heap.size, 0, none⟩ = some (.int .i64 mi.c) ∧ w'.cell? ⟨w6.heap.size, 1, none⟩ = some (.int .i64 mi.i) ∧ w'.cell? ⟨w6.heap.size, 2, none⟩ = some (.int .i64 mi.k) ∧ w'.cell? ⟨w6.heap.size, 3, none⟩ = some (.int .i64 mi.f) ∧ w'.cell? ⟨w6.heap.size, 4, none⟩ = some (.int .i64 mi.t) ∧ w'.cell? ⟨w6.heap.size, 5, none⟩ = some (.int .i64 mi.u) ∧ w'.cell? ⟨w6.heap.size, 6, none⟩ = some (.int .i64 mi.e) ∧ w'.cell? ⟨(w6.heap.size + 1), 0, none⟩ = some (.int .i64 ot.c) ∧ w'.cell? ⟨(w6.heap.size + 1), 1, none⟩ = some (.int .i64 ot.i) ∧ w'.cell? ⟨(w6.heap.size + 1), 2, none⟩ = some (.int .i64 ot.k) ∧ w'.cell? ⟨(w6.heap.size + 1), 3, none⟩ = some (.int .i64 ot.f) ∧ w'.cell? ⟨(w6.heap.size + 1), 4, none⟩ = some (.int .i64 ot.t) ∧ w'.cell? ⟨(w6.heap.size + 1), 5, none⟩ = some (.int .i64 ot.u) ∧ w'.cell? ⟨(w6.heap.size + 1), 6, none⟩ = some (.int .i64 ot.e)) ((refine HSI.out _ ?_; first | (with_reducible exact hzz))) (first | (go_at_call 13; refine (ask_v _ [qu mi (T1 + Clk.wt N)] (at0 av i) ot N _ (HS7.out.ext hyy) (by simp) HD.out.wo (by have := HAB.out i hik; omega)).mono ?_; rintro e w12 ⟨⟨vw12, kk, K, r, rfl, hr, hs, hk2, hwho⟩, hx9⟩; replace hzz := Ext.trans hzz hx9; replace hyy := Ext.trans hyy hx9; clear hx9; obtain ⟨L2, g⟩ := r; simp only at hs ⊢; have HR9 := Lib.hid hr.symm; have HS9 := Lib.hid hs; have HK9 := Lib.hid hk2; have HWH := hwho; clear hr hs hk2 hwho))
                have hg : g = false := by
                  have h2 := HD.out.ask2 (at0 av i) (T1 + Clk.wt N) N hN0 hN1
                  have h3 : (askL [qu mi (T1 + Clk.wt N)] (at0 av i) ot N).2 = g := by rw [HR9.out]
                  rw [← h3, h2]
                  exact decide_eq_false (by omega)
                have hkk := HD.out.who2 (at0 av i) (T1 + Clk.wt N) N K hN0 hN1 HWH.out
                obtain ⟨pk, nk, ck, rfl, hrw, _⟩ := HK9.out
                have hnk : K.length = nk := hrw.1
                rw [hnk] at hkk
                subst hg
                have hk0 : (0 : Int) < (nk : Int) := by have := hkk.2 hu; omega
                have hd : decide ((0 : Int) < (nk : Int)) = true := by exact decide_eq_true hk0
                clear hrw hkk hnk hz5 hy5 hzz
                go_wp2
                go_roundw
                case rel => exact ⟨i + 1, by go_num, by omega, by omega, hyy⟩
                case measure => simp [intOf]; omega
              · have HSI : Hid (∀ w', Ext W0 w' → w'.cell? ⟨ba, oa + i, none⟩ = some (.int .i64 (at0 av i)) ∧ w'.cell? ⟨w6.heap.size, 0, none⟩ = some (.int .i64 mi.c) ∧ w'.cell? ⟨w6.heap.size, 1, none⟩ = some (.int .i64 mi.i) ∧ w'.cell? ⟨w6.heap.size, 2, none⟩ = some (.int .i64 mi.k) ∧ w'.cell? ⟨w6.heap.size, 3, none⟩ = some (.int .i64 mi.f) ∧ w'.cell? ⟨w6.heap.size, 4, none⟩ = some (.int .i64 mi.t) ∧ w'.cell? ⟨w6.heap.size, 5, none⟩ = some (.int .i64 mi.u) ∧ w'.cell? ⟨w6.heap.size, 6, none⟩ = some (.int .i64 mi.e) ∧ w'.cell? ⟨(w6.heap.size + 1), 0, none⟩ = some (.int .i64 ot.c) ∧ w'.cell? ⟨(w6.heap.size + 1), 1, none⟩ = some (.int .i64 ot.i) ∧ w'.cell? ⟨(w6.heap.size + 1), 2, none⟩ = some (.int .i64 ot.k) ∧ w'.cell? ⟨(w6.heap.size + 1), 3, none⟩ = some (.int .i64 ot.f) ∧ w'.cell? ⟨(w6.heap.size + 1), 4, none⟩ = some (.int .i64 ot.t) ∧ w'.cell? ⟨(w6.heap.size + 1), 5, none⟩ = some (.int .i64 ot.u) ∧ w'.cell? ⟨(w6.heap.size + 1), 6, none⟩ = some (.int .i64 ot.e)) := Lib.hid (fun w' h => by obtain ⟨⟨a0, a1, a2, a3, a4, a5, a6⟩, b0⟩ := HC.out w' h; exact ⟨HCA.out i hik w' h, a0, a1, a2, a3, a4, a5, a6, b0⟩)
                go_wp2
                go_quiet (fail)
                generalize hw4 : wr.drewN nq = w4
                have hz4 : Ext w7 w4 := by rw [← hw4]; exact Ext.drewN hw nq
                clear hw4 hw
                go_wp2
                have HVS := Lib.hid (HS7.out.ext hz4)
                have hzz : Ext W0 w4.drew := Ext.trans HZ7.out (Ext.trans hz4 (Ext.drew (Ext.refl _)))
                have hyy : Ext w7 w4.drew := Ext.trans hz4 (Ext.drew (Ext.refl _))
                go_region_held3 (fun w' => w'.cell? ⟨ba, oa + i, none⟩ = some (.int .i64 (at0 av i)) ∧ w'.cell? ⟨w6.heap.size, 0, none⟩ = some (.int .i64 mi.c) ∧ w'.cell? ⟨w6.heap.size, 1, none⟩ = some (.int .i64 mi.i) ∧ w'.cell? ⟨w6.heap.size, 2, none⟩ = some (.int .i64 mi.k) ∧ w'.cell? ⟨w6.heap.size, 3, none⟩ = some (.int .i64 mi.f) ∧ w'.cell? ⟨w6.heap.size, 4, none⟩ = some (.int .i64 mi.t) ∧ w'.cell? ⟨w6.heap.size, 5, none⟩ = some (.int .i64 mi.u) ∧ w'.cell? ⟨w6.heap.size, 6, none⟩ = some (.int .i64 mi.e) ∧ w'.cell? ⟨(w6.heap.size + 1), 0, none⟩ = some (.int .i64 ot.c) ∧ w'.cell? ⟨(w6.heap.size + 1), 1, none⟩ = some (.int .i64 ot.i) ∧ w'.cell? ⟨(w6.heap.size + 1), 2, none⟩ = some (.int .i64 ot.k) ∧ w'.cell? ⟨(w6.heap.size + 1), 3, none⟩ = some (.int .i64 ot.f) ∧ w'.cell? ⟨(w6.heap.size + 1), 4, none⟩ = some (.int .i64 ot.t) ∧ w'.cell? ⟨(w6.heap.size + 1), 5, none⟩ = some (.int .i64 ot.u) ∧ w'.cell? ⟨(w6.heap.size + 1), 6, none⟩ = some (.int .i64 ot.e)) ((refine HSI.out _ ?_; first | (with_reducible exact hzz))) (first | (go_at_call 17; refine (over_v _ [qu mi (T1 + Clk.wt N)] (at0 av i) _ (HS7.out.ext hyy) (by simp)).mono ?_; rintro e w8 ⟨⟨v8, rfl, hown⟩, hx9⟩; have HV8 := Lib.hid hown.sl; replace hzz := Ext.trans hzz hx9; replace hyy := Ext.trans hyy hx9; clear hx9 hown) | (go_at_call 21; refine (has_w _ (overL [qu mi (T1 + Clk.wt N)] (at0 av i)) 1 5 mi.k mi.f mi.t true _ HV8.out (by rw [over_one]; split <;> simp) HD.out.wf HD.out.wt (by simp [(HD.out.had _ _ hu)])).mono ?_; rintro e w9 ⟨rfl, hx9⟩; replace hzz := Ext.trans hzz hx9; replace hyy := Ext.trans hyy hx9; clear hx9))
                clear HV8 HVS
                have hz5 := hzz
                have hy5 := hyy
                clear hzz hyy
                go_wp2
                have hzz : Ext W0 w9.drew := Ext.trans hz5 (Ext.drew (Ext.refl _))
                have hyy : Ext w7 w9.drew := Ext.trans hy5 (Ext.drew (Ext.refl _))
                go_region_held3 (fun w' => w'.cell? ⟨ba, oa + i, none⟩ = some (.int .i64 (at0 av i)) ∧ w'.cell? ⟨w6.heap.size, 0, none⟩ = some (.int .i64 mi.c) ∧ w'.cell? ⟨w6.heap.size, 1, none⟩ = some (.int .i64 mi.i) ∧ w'.cell? ⟨w6.heap.size, 2, none⟩ = some (.int .i64 mi.k) ∧ w'.cell? ⟨w6.heap.size, 3, none⟩ = some (.int .i64 mi.f) ∧ w'.cell? ⟨w6.heap.size, 4, none⟩ = some (.int .i64 mi.t) ∧ w'.cell? ⟨w6.heap.size, 5, none⟩ = some (.int .i64 mi.u) ∧ w'.cell? ⟨w6.heap.size, 6, none⟩ = some (.int .i64 mi.e) ∧ w'.cell? ⟨(w6.heap.size + 1), 0, none⟩ = some (.int .i64 ot.c) ∧ w'.cell? ⟨(w6.heap.size + 1), 1, none⟩ = some (.int .i64 ot.i) ∧ w'.cell? ⟨(w6.heap.size + 1), 2, none⟩ = some (.int .i64 ot.k) ∧ w'.cell? ⟨(w6.heap.size + 1), 3, none⟩ = some (.int .i64 ot.f) ∧ w'.cell? ⟨(w6.heap.size + 1), 4, none⟩ = some (.int .i64 ot.t) ∧ w'.cell? ⟨(w6.heap.size + 1), 5, none⟩ = some (.int .i64 ot.u) ∧ w'.cell? ⟨(w6.heap.size + 1), 6, none⟩ = some (.int .i64 ot.e)) ((refine HSI.out _ ?_; first | (with_reducible exact hzz))) (first | (go_at_call 13; refine (ask_v _ [qu mi (T1 + Clk.wt N)] (at0 av i) ot N _ (HS7.out.ext hyy) (by simp) HD.out.wo (by have := HAB.out i hik; omega)).mono ?_; rintro e w12 ⟨⟨vw12, kk, K, r, rfl, hr, hs, hk2, hwho⟩, hx9⟩; replace hzz := Ext.trans hzz hx9; replace hyy := Ext.trans hyy hx9; clear hx9; obtain ⟨L2, g⟩ := r; simp only at hs ⊢; have HR9 := Lib.hid hr.symm; have HS9 := Lib.hid hs; have HK9 := Lib.hid hk2; have HWH := hwho; clear hr hs hk2 hwho))
                have hg : g = false := by
                  have h2 := HD.out.ask2 (at0 av i) (T1 + Clk.wt N) N hN0 hN1
                  have h3 : (askL [qu mi (T1 + Clk.wt N)] (at0 av i) ot N).2 = g := by rw [HR9.out]
                  rw [← h3, h2]
                  exact decide_eq_false (by omega)
                have hkk := HD.out.who2 (at0 av i) (T1 + Clk.wt N) N K hN0 hN1 HWH.out
                obtain ⟨pk, nk, ck, rfl, hrw, _⟩ := HK9.out
                have hnk : K.length = nk := hrw.1
                rw [hnk] at hkk
                subst hg
                have hk0 : (0 : Int) < (nk : Int) := by have := hkk.2 hu; omega
                have hd : decide ((0 : Int) < (nk : Int)) = true := by exact decide_eq_true hk0
                clear hrw hkk hnk hz5 hy5 hzz
                go_wp2
                go_roundw
                case rel => exact ⟨i + 1, by go_num, by omega, by omega, hyy⟩
                case measure => simp [intOf]; omega
            · have hus : ¬ at0 bv i < at0 bv 0 + N := by have := clocks_end LZ.out A.out B.out hi1 hik hN0 hN1 (by rw [HT1.out]; omega); omega
              replace hu : T1 + Clk.wt N ≤ at0 av i := by omega
              have HSI : Hid (∀ w', Ext W0 w' → w'.cell? ⟨ba, oa + i, none⟩ = some (.int .i64 (at0 av i)) ∧ w'.cell? ⟨w6.heap.size, 0, none⟩ = some (.int .i64 mi.c) ∧ w'.cell? ⟨w6.heap.size, 1, none⟩ = some (.int .i64 mi.i) ∧ w'.cell? ⟨w6.heap.size, 2, none⟩ = some (.int .i64 mi.k) ∧ w'.cell? ⟨w6.heap.size, 3, none⟩ = some (.int .i64 mi.f) ∧ w'.cell? ⟨w6.heap.size, 4, none⟩ = some (.int .i64 mi.t) ∧ w'.cell? ⟨w6.heap.size, 5, none⟩ = some (.int .i64 mi.u) ∧ w'.cell? ⟨w6.heap.size, 6, none⟩ = some (.int .i64 mi.e) ∧ w'.cell? ⟨(w6.heap.size + 1), 0, none⟩ = some (.int .i64 ot.c) ∧ w'.cell? ⟨(w6.heap.size + 1), 1, none⟩ = some (.int .i64 ot.i) ∧ w'.cell? ⟨(w6.heap.size + 1), 2, none⟩ = some (.int .i64 ot.k) ∧ w'.cell? ⟨(w6.heap.size + 1), 3, none⟩ = some (.int .i64 ot.f) ∧ w'.cell? ⟨(w6.heap.size + 1), 4, none⟩ = some (.int .i64 ot.t) ∧ w'.cell? ⟨(w6.heap.size + 1), 5, none⟩ = some (.int .i64 ot.u) ∧ w'.cell? ⟨(w6.heap.size + 1), 6, none⟩ = some (.int .i64 ot.e)) := Lib.hid (fun w' h => by obtain ⟨⟨a0, a1, a2, a3, a4, a5, a6⟩, b0⟩ := HC.out w' h; exact ⟨HCA.out i hik w' h, a0, a1, a2, a3, a4, a5, a6, b0⟩)
              go_wp2
              go_quiet (fail)
              generalize hw4 : wr.drewN nq = w4
              have hz4 : Ext w7 w4 := by rw [← hw4]; exact Ext.drewN hw nq
              clear hw4 hw
              go_wp2
              have HVS := Lib.hid (HS7.out.ext hz4)
              have hzz : Ext W0 w4.drew := Ext.trans HZ7.out (Ext.trans hz4 (Ext.drew (Ext.refl _)))
              have hyy : Ext w7 w4.drew := Ext.trans hz4 (Ext.drew (Ext.refl _))
              go_region_held3 (fun w' => w'.cell? ⟨ba, oa + i, none⟩ = some (.int .i64 (at0 av i)) ∧ w'.cell? ⟨w6.heap.size, 0, none⟩ = some (.int .i64 mi.c) ∧ w'.cell? ⟨w6.heap.size, 1, none⟩ = some (.int .i64 mi.i) ∧ w'.cell? ⟨w6.heap.size, 2, none⟩ = some (.int .i64 mi.k) ∧ w'.cell? ⟨w6.heap.size, 3, none⟩ = some (.int .i64 mi.f) ∧ w'.cell? ⟨w6.heap.size, 4, none⟩ = some (.int .i64 mi.t) ∧ w'.cell? ⟨w6.heap.size, 5, none⟩ = some (.int .i64 mi.u) ∧ w'.cell? ⟨w6.heap.size, 6, none⟩ = some (.int .i64 mi.e) ∧ w'.cell? ⟨(w6.heap.size + 1), 0, none⟩ = some (.int .i64 ot.c) ∧ w'.cell? ⟨(w6.heap.size + 1), 1, none⟩ = some (.int .i64 ot.i) ∧ w'.cell? ⟨(w6.heap.size + 1), 2, none⟩ = some (.int .i64 ot.k) ∧ w'.cell? ⟨(w6.heap.size + 1), 3, none⟩ = some (.int .i64 ot.f) ∧ w'.cell? ⟨(w6.heap.size + 1), 4, none⟩ = some (.int .i64 ot.t) ∧ w'.cell? ⟨(w6.heap.size + 1), 5, none⟩ = some (.int .i64 ot.u) ∧ w'.cell? ⟨(w6.heap.size + 1), 6, none⟩ = some (.int .i64 ot.e)) ((refine HSI.out _ ?_; first | (with_reducible exact hzz))) (first | (go_at_call 17; refine (over_v _ [qu mi (T1 + Clk.wt N)] (at0 av i) _ (HS7.out.ext hyy) (by simp)).mono ?_; rintro e w8 ⟨⟨v8, rfl, hown⟩, hx9⟩; have HV8 := Lib.hid hown.sl; replace hzz := Ext.trans hzz hx9; replace hyy := Ext.trans hyy hx9; clear hx9 hown) | (go_at_call 21; refine (has_w _ (overL [qu mi (T1 + Clk.wt N)] (at0 av i)) 1 5 mi.k mi.f mi.t false _ HV8.out (by rw [over_one]; split <;> simp) HD.out.wf HD.out.wt (by simp [(HD.out.gone _ _ hu)])).mono ?_; rintro e w9 ⟨rfl, hx9⟩; replace hzz := Ext.trans hzz hx9; replace hyy := Ext.trans hyy hx9; clear hx9))
              clear HV8 HVS
              have hz5 := hzz
              have hy5 := hyy
              clear hzz hyy
              go_wp2
              have hzz : Ext W0 w9.drew := Ext.trans hz5 (Ext.drew (Ext.refl _))
              have hyy : Ext w7 w9.drew := Ext.trans hy5 (Ext.drew (Ext.refl _))
              go_region_held3 (fun w' => w'.cell? ⟨ba, oa + i, none⟩ = some (.int .i64 (at0 av i)) ∧ w'.cell? ⟨w6.heap.size, 0, none⟩ = some (.int .i64 mi.c) ∧ w'.cell? ⟨w6.heap.size, 1, none⟩ = some (.int .i64 mi.i) ∧ w'.cell? ⟨w6.heap.size, 2, none⟩ = some (.int .i64 mi.k) ∧ w'.cell? ⟨w6.heap.size, 3, none⟩ = some (.int .i64 mi.f) ∧ w'.cell? ⟨w6.heap.size, 4, none⟩ = some (.int .i64 mi.t) ∧ w'.cell? ⟨w6.heap.size, 5, none⟩ = some (.int .i64 mi.u) ∧ w'.cell? ⟨w6.heap.size, 6, none⟩ = some (.int .i64 mi.e) ∧ w'.cell? ⟨(w6.heap.size + 1), 0, none⟩ = some (.int .i64 ot.c) ∧ w'.cell? ⟨(w6.heap.size + 1), 1, none⟩ = some (.int .i64 ot.i) ∧ w'.cell? ⟨(w6.heap.size + 1), 2, none⟩ = some (.int .i64 ot.k) ∧ w'.cell? ⟨(w6.heap.size + 1), 3, none⟩ = some (.int .i64 ot.f) ∧ w'.cell? ⟨(w6.heap.size + 1), 4, none⟩ = some (.int .i64 ot.t) ∧ w'.cell? ⟨(w6.heap.size + 1), 5, none⟩ = some (.int .i64 ot.u) ∧ w'.cell? ⟨(w6.heap.size + 1), 6, none⟩ = some (.int .i64 ot.e)) ((refine HSI.out _ ?_; first | (with_reducible exact hzz))) (first | (go_at_call 13; refine (ask_v _ [qu mi (T1 + Clk.wt N)] (at0 av i) ot N _ (HS7.out.ext hyy) (by simp) HD.out.wo (by have := HAB.out i hik; omega)).mono ?_; rintro e w12 ⟨⟨vw12, kk, K, r, rfl, hr, hs, hk2, hwho⟩, hx9⟩; replace hzz := Ext.trans hzz hx9; replace hyy := Ext.trans hyy hx9; clear hx9; obtain ⟨L2, g⟩ := r; simp only at hs ⊢; have HR9 := Lib.hid hr.symm; have HS9 := Lib.hid hs; have HK9 := Lib.hid hk2; have HWH := hwho; clear hr hs hk2 hwho))
              have hg : g = true := by
                have h2 := HD.out.ask2 (at0 av i) (T1 + Clk.wt N) N hN0 hN1
                have h3 : (askL [qu mi (T1 + Clk.wt N)] (at0 av i) ot N).2 = g := by rw [HR9.out]
                rw [← h3, h2]
                exact decide_eq_true (by omega)
              have hkk := HD.out.who2 (at0 av i) (T1 + Clk.wt N) N K hN0 hN1 HWH.out
              obtain ⟨pk, nk, ck, rfl, hrw, _⟩ := HK9.out
              have hnk : K.length = nk := hrw.1
              rw [hnk] at hkk
              subst hg
              obtain rfl : nk = 0 := by have := mt hkk.1 (by omega); omega
              have hd : decide ((0 : Int) < ((0 : Nat) : Int)) = false := by rfl
              clear hrw hkk hnk hz5 hy5 hzz
              go_wp2
              go_roundw
              case rel => exact ⟨i + 1, by go_num, by omega, by omega, hyy⟩
              case measure => simp [intOf]; omega
          · go_wp2
            go_ret
            exact ⟨rfl, Ext.trans HW0.out (Ext.trans HZ7.out hw)⟩
end Go.Proofs.Ytocnopgpdlfkjaa.Ls
