/- Leases: do two clash (the reference); no two clash, none lasts longer. -/
import Derived.Test.YtocnopgpdlfkjaaLeJ
import Derived.Deep.RegionHeld3
import Derived.StillTailTactics
namespace Go.Proofs.Ytocnopgpdlfkjaa.Ls
open Go.RowKit Go.Proofs.Ytocnopgpdlfkjaa Go.Sort
set_option linter.unusedVariables false

def meetRB (f t g u : Int) : Bool := decide (f < u ∧ g < t ∧ f < t ∧ g < u)
def clashRB (a b : Le) : Bool := decide (a.c ≠ b.c ∧ a.i = b.i ∧ meetRB a.f a.t b.f b.t = true ∧ (a.k = 2 ∨ b.k = 2))
theorem clashR_of {a b : Le} (ha : oneB a = true) (hb : oneB b = true) : clashRB a b = clashB a b := by
  have h1 := of_decide_eq_true ha
  have h2 := of_decide_eq_true hb
  unfold clashRB clashB meetRB
  rw [Bool.eq_iff_iff, decide_eq_true_iff, decide_eq_true_iff, decide_eq_true_iff]
  constructor
  · rintro ⟨h3, h4, ⟨h5, h6, _⟩, h7⟩; exact ⟨h3, h4, ⟨h5, h6⟩, h7⟩
  · rintro ⟨h3, h4, ⟨h5, h6⟩, h7⟩; exact ⟨h3, h4, ⟨h5, h6, by omega, by omega⟩, h7⟩

set_option maxRecDepth 100000 in
set_option maxHeartbeats 4000000 in
theorem rmeet_any (f t g u : Int) (w : World) : Calls Try.prog 48 #[.agg #[.int .i64 f, .int .i64 t], .agg #[.int .i64 g, .int .i64 u]] w fun e w' => e = .returned (.bool (meetRB f t g u)) ∧ Ext w w' := by
  by_cases ha : f < u
  · have da0 : decide (f < u) = true := decide_eq_true ha
    have Ha := Lib.hid ha
    clear ha
    by_cases hb : g < t
    · have db0 : decide (g < t) = true := decide_eq_true hb
      have Hb := Lib.hid hb
      clear hb
      by_cases hc : f < t
      · have dc0 : decide (f < t) = true := decide_eq_true hc
        have Hc := Lib.hid hc
        clear hc
        by_cases hd : g < u
        · have dd0 : decide (g < u) = true := decide_eq_true hd
          have Hd := Lib.hid hd
          clear hd
          have e : meetRB f t g u = true := by
            have ga := Ha.out
            have gb := Hb.out
            have gc := Hc.out
            have gd := Hd.out
            unfold meetRB
            exact decide_eq_true (by omega)
          rw [e]
          clear e
          go_enter Try.func48, Try.ntmps48
          go_wp2
          go_ret
          exact ⟨rfl, (Ext.trans (Ext.alloc _ _) (Ext.alloc _ _))⟩
        · have dd0 : decide (g < u) = false := decide_eq_false hd
          have Hd := Lib.hid hd
          clear hd
          have e : meetRB f t g u = false := by
            have ga := Ha.out
            have gb := Hb.out
            have gc := Hc.out
            have gd := Hd.out
            unfold meetRB
            exact decide_eq_false (by omega)
          rw [e]
          clear e
          go_enter Try.func48, Try.ntmps48
          go_wp2
          go_ret
          exact ⟨rfl, (Ext.trans (Ext.alloc _ _) (Ext.alloc _ _))⟩
      · have dc0 : decide (f < t) = false := decide_eq_false hc
        have Hc := Lib.hid hc
        clear hc
        have e : meetRB f t g u = false := by
          have ga := Ha.out
          have gb := Hb.out
          have gc := Hc.out
          unfold meetRB
          exact decide_eq_false (by omega)
        rw [e]
        clear e
        go_enter Try.func48, Try.ntmps48
        go_wp2
        go_ret
        exact ⟨rfl, (Ext.trans (Ext.alloc _ _) (Ext.alloc _ _))⟩
    · have db0 : decide (g < t) = false := decide_eq_false hb
      have Hb := Lib.hid hb
      clear hb
      have e : meetRB f t g u = false := by
        have ga := Ha.out
        have gb := Hb.out
        unfold meetRB
        exact decide_eq_false (by omega)
      rw [e]
      clear e
      go_enter Try.func48, Try.ntmps48
      go_wp2
      go_ret
      exact ⟨rfl, (Ext.trans (Ext.alloc _ _) (Ext.alloc _ _))⟩
  · have da0 : decide (f < u) = false := decide_eq_false ha
    have Ha := Lib.hid ha
    clear ha
    have e : meetRB f t g u = false := by
      have ga := Ha.out
      unfold meetRB
      exact decide_eq_false (by omega)
    rw [e]
    clear e
    go_enter Try.func48, Try.ntmps48
    go_wp2
    go_ret
    exact ⟨rfl, (Ext.trans (Ext.alloc _ _) (Ext.alloc _ _))⟩

set_option maxRecDepth 100000 in
set_option maxHeartbeats 4000000 in
theorem rclash_any (a b : Le) (w : World) : Calls Try.prog 25 #[.agg #[.int .i64 a.c, .int .i64 a.i, .int .i64 a.k, .int .i64 a.f, .int .i64 a.t, .int .i64 a.u, .int .i64 a.e], .agg #[.int .i64 b.c, .int .i64 b.i, .int .i64 b.k, .int .i64 b.f, .int .i64 b.t, .int .i64 b.u, .int .i64 b.e]] w fun e w' => e = .returned (.bool (clashRB a b)) ∧ Ext w w' := by
  by_cases hc : a.c = b.c
  · have dc0 : (a.c != b.c) = false := by simp [hc]
    have Hc := Lib.hid hc
    clear hc
    have e : clashRB a b = false := decide_eq_false (fun h => h.1 Hc.out)
    rw [e]
    clear e
    go_enter Try.func25, Try.ntmps25
    go_wp2
    go_ret
    exact ⟨rfl, Ext.trans (Ext.alloc _ _) (Ext.alloc _ _)⟩
  · have dc0 : (a.c != b.c) = true := by simp [hc]
    have Hc := Lib.hid hc
    clear hc
    by_cases hi : a.i = b.i
    · have di0 : (a.i == b.i) = true := by simp [hi]
      have Hi := Lib.hid hi
      clear hi
      by_cases hm : meetRB a.f a.t b.f b.t = true
      · have dm0 : meetRB a.f a.t b.f b.t = true := hm
        have Hm := Lib.hid hm
        clear hm
        by_cases hk : a.k = 2
        · have dk0 : (a.k == 2) = true := by simp [hk]
          have Hk := Lib.hid hk
          clear hk
          have e : clashRB a b = true := decide_eq_true ⟨Hc.out, Hi.out, Hm.out, .inl Hk.out⟩
          rw [e]
          clear e
          go_enter Try.func25, Try.ntmps25
          have HM := Lib.hid dm0
          clear dm0
          go_wp2_with fail
          refine (rmeet_any _ _ _ _ _).mono ?_
          rintro e w1 ⟨rfl, hx⟩
          rw [HM.out]
          have ka : w1.cell? ⟨w.heap.size, 2, none⟩ = some (.int .i64 a.k) := hx.cell ((Ext.alloc _ _).cell (cell_of_row _ _ 2 _ _ _ (heap_alloc_new w _)))
          have kb : w1.cell? ⟨w.heap.size + 1, 2, none⟩ = some (.int .i64 b.k) := hx.cell (by simp)
          have HX := Lib.hid (Ext.trans (Ext.trans (Ext.alloc _ _) (Ext.alloc _ _)) hx)
          clear hx
          go_wp2
          go_ret
          exact ⟨rfl, HX.out⟩
        · have dk0 : (a.k == 2) = false := by simp [hk]
          have Hk := Lib.hid hk
          clear hk
          by_cases hl : b.k = 2
          · have dl0 : (b.k == 2) = true := by simp [hl]
            have Hl := Lib.hid hl
            clear hl
            have e : clashRB a b = true := decide_eq_true ⟨Hc.out, Hi.out, Hm.out, .inr Hl.out⟩
            rw [e]
            clear e
            go_enter Try.func25, Try.ntmps25
            have HM := Lib.hid dm0
            clear dm0
            go_wp2_with fail
            refine (rmeet_any _ _ _ _ _).mono ?_
            rintro e w1 ⟨rfl, hx⟩
            rw [HM.out]
            have ka : w1.cell? ⟨w.heap.size, 2, none⟩ = some (.int .i64 a.k) := hx.cell ((Ext.alloc _ _).cell (cell_of_row _ _ 2 _ _ _ (heap_alloc_new w _)))
            have kb : w1.cell? ⟨w.heap.size + 1, 2, none⟩ = some (.int .i64 b.k) := hx.cell (by simp)
            have HX := Lib.hid (Ext.trans (Ext.trans (Ext.alloc _ _) (Ext.alloc _ _)) hx)
            clear hx
            go_wp2
            go_ret
            exact ⟨rfl, HX.out⟩
          · have dl0 : (b.k == 2) = false := by simp [hl]
            have Hl := Lib.hid hl
            clear hl
            have e : clashRB a b = false := decide_eq_false (fun h => h.2.2.2.elim Hk.out Hl.out)
            rw [e]
            clear e
            go_enter Try.func25, Try.ntmps25
            have HM := Lib.hid dm0
            clear dm0
            go_wp2_with fail
            refine (rmeet_any _ _ _ _ _).mono ?_
            rintro e w1 ⟨rfl, hx⟩
            rw [HM.out]
            have ka : w1.cell? ⟨w.heap.size, 2, none⟩ = some (.int .i64 a.k) := hx.cell ((Ext.alloc _ _).cell (cell_of_row _ _ 2 _ _ _ (heap_alloc_new w _)))
            have kb : w1.cell? ⟨w.heap.size + 1, 2, none⟩ = some (.int .i64 b.k) := hx.cell (by simp)
            have HX := Lib.hid (Ext.trans (Ext.trans (Ext.alloc _ _) (Ext.alloc _ _)) hx)
            clear hx
            go_wp2
            go_ret
            exact ⟨rfl, HX.out⟩
      · have dm0 : meetRB a.f a.t b.f b.t = false := by simpa using hm
        have Hm := Lib.hid hm
        clear hm
        have e : clashRB a b = false := decide_eq_false (fun h => Hm.out h.2.2.1)
        rw [e]
        clear e
        go_enter Try.func25, Try.ntmps25
        have HM := Lib.hid dm0
        clear dm0
        go_wp2_with fail
        refine (rmeet_any _ _ _ _ _).mono ?_
        rintro e w1 ⟨rfl, hx⟩
        rw [HM.out]
        have ka : w1.cell? ⟨w.heap.size, 2, none⟩ = some (.int .i64 a.k) := hx.cell ((Ext.alloc _ _).cell (cell_of_row _ _ 2 _ _ _ (heap_alloc_new w _)))
        have kb : w1.cell? ⟨w.heap.size + 1, 2, none⟩ = some (.int .i64 b.k) := hx.cell (by simp)
        have HX := Lib.hid (Ext.trans (Ext.trans (Ext.alloc _ _) (Ext.alloc _ _)) hx)
        clear hx
        go_wp2
        go_ret
        exact ⟨rfl, HX.out⟩
    · have di0 : (a.i == b.i) = false := by simp [hi]
      have Hi := Lib.hid hi
      clear hi
      have e : clashRB a b = false := decide_eq_false (fun h => Hi.out h.2.1)
      rw [e]
      clear e
      go_enter Try.func25, Try.ntmps25
      go_wp2
      go_ret
      exact ⟨rfl, Ext.trans (Ext.alloc _ _) (Ext.alloc _ _)⟩

def A1 (w : World) (n : Nat) (i : Value) (wr : World) : Prop := ∃ k : Nat, i = .int .i64 k ∧ k ≤ n + 1 ∧ k ≤ 41 ∧ Ext w wr
def A2 (w : World) (m : Nat) (i : Value) (wr : World) : Prop := ∃ k : Nat, i = .int .i64 k ∧ k ≤ m ∧ Ext w wr
set_option maxRecDepth 100000 in
set_option maxHeartbeats 4000000 in
theorem apart_walk {p : Option Addr} {n c : Nat} {l : List Stp} {w : World} (hr : LStp.Row w p n l) (hnc : n ≤ c) (hc : c ≤ 9223372036854775807) (hpl : Pl p c) : Calls Try.prog 4 #[.slice p n c] w fun e w' => e = .returned (.bool true) ∧ Ext w w' := by
  have HP := Lib.hid hr
  have HPL := Lib.hid hpl
  have hn63 := hr.2.1
  clear hr hpl
  go_enter Try.func4, Try.ntmps4
  go_wp2_with fail
  refine (head_v _).mono ?_
  rintro e w1 ⟨rfl, hx1⟩
  have HX1 := Lib.hid hx1
  clear hx1
  go_wp2
  go_loopw [4] (fun i wr => A1 w n i wr) (fun i _ => 50 - (intOf i).toNat)
  case atStart => exact ⟨0, rfl, by omega, by omega, HX1.out⟩
  case round =>
    obtain ⟨k, rfl, hk, hk41, hx⟩ := hrel
    have HX := Lib.hid hx
    clear hx
    by_cases hkn : k ≤ n
    · have d1 : decide ((k : Int) ≤ (n : Int)) = true := decide_eq_true (by omega)
      by_cases hk40 : k ≤ 40
      · have d2 : decide ((k : Int) ≤ (40 : Int)) = true := decide_eq_true (by omega)
        have slt : ∀ w, (Instr.slice 39 (.slice p n c) none (some (.int .i64 (k : Int))) none).run Try.prog w = .ok (.slice p k c) w := fun w => run_cut_to Try.underlying39 (e := 63) (size := 9) (by kernel_rfl) p n c k _ rfl (by omega) HPL.out w
        have HT := Lib.hid (table_any p k c (l.take k) wr ((HP.out.ext HX.out).pre k hkn))
        go_wp2_with fail
        refine HT.out.mono ?_
        rintro e w2 ⟨⟨v, rfl, hs⟩, hx⟩
        have HI := Lib.hid (inv_tab (l.take k))
        have HLK : Hid ((tabL (l.take k)).1.length ≤ k ∧ 0 ≤ (tabL (l.take k)).2 ∧ (tabL (l.take k)).2 ≤ 40000) := Lib.hid (by
          have h1 := runT_bd (l.take k)
          have h2 := tab_bd (l.take k)
          simp only [List.length_take] at h1
          have h3 : min k l.length ≤ k := by omega
          have h4 : tabL (l.take k) = runT (l.take k) := if_pos (by simp only [List.length_take]; omega)
          rw [h4] at h2 ⊢
          exact ⟨by omega, h2.2.1, h2.2.2⟩)
        have hok : decide ((l.take k).length ≤ 40) = true := decide_eq_true (by simp only [List.length_take]; omega)
        rw [hok]
        clear hok
        obtain ⟨L, T, hLT⟩ : ∃ L T, tabL (l.take k) = (L, T) := ⟨_, _, rfl⟩
        rw [hLT] at hs HI HLK ⊢
        simp only at hs
        have HS := Lib.hid hs
        obtain ⟨pL, m, cL, rfl, hrow, _⟩ := hs
        have HLM : Hid (L.length = m) := Lib.hid hrow.1
        have HROW := Lib.hid hrow
        have HX2 := Lib.hid (Ext.trans HX.out hx)
        have hmk : ¬ (k : Int) < (m : Int) := by have h1 : L.length ≤ k := HLK.out.1; have h2 := HLM.out; omega
        have hmk2 : decide (k < m) = false := decide_eq_false (by omega)
        have hm63 := hrow.2.1
        clear hx hLT hrow HT
        go_wp2_with fail
        refine (right_v _ L _ HS.out (by have := HI.out.len; omega)).mono ?_
        rintro e w3 ⟨rfl, hx⟩
        rw [show rightB L = true from HI.out.right]
        have HX3 := Lib.hid (Ext.trans HX2.out hx)
        have HROW3 := Lib.hid (HROW.out.ext hx)
        clear hx
        go_wp2
        go_loopw [8] (fun i wr => A2 w3 m i wr) (fun i _ => m - (intOf i).toNat)
        case atStart => exact ⟨0, rfl, by omega, Ext.refl _⟩
        case round =>
          obtain ⟨i, rfl, hi, hx⟩ := hrel
          by_cases him : i < m
          · obtain ⟨x, gx⟩ := get_of L i (by rw [HLM.out]; exact him)
            have HX4 := Lib.hid hx
            obtain ⟨b, off, rfl, hw, c0, c1, c2, c3, c4, c5, c6⟩ := le_at (HROW3.out.ext hx) gx
            have HG := Lib.hid gx
            have h1 : (i : Int) < (m : Int) := by omega
            have h0 : (0 : Int) ≤ (i : Int) := by omega
            have HXT : Hid (¬ (T + Clk.wt (Clk.aa 64) < x.u)) := Lib.hid (by
              have h2 := HI.out.til x (List.mem_of_getElem? gx)
              have h3 : Clk.wt (Clk.aa 64) = 66 := by kernel_rfl
              rw [h3]; omega)
            have HWR : Hid (IntKind.i64.wrap (T + Clk.wt (Clk.aa 64)) = T + Clk.wt (Clk.aa 64)) := Lib.hid (IntWalk.i64_in _ (by
              have h3 : Clk.wt (Clk.aa 64) = 66 := by kernel_rfl
              rw [h3]; have := HLK.out.2; omega))
            have HSS : Hid (∀ w', Ext wr w' → w'.cell? ⟨b, off + i * 7 + 5, none⟩ = some (.int .i64 x.u)) := Lib.hid (fun w' h => h.cell c5)
            have hwr := HWR.out
            have hxt : decide (T + Clk.wt (Clk.aa 64) < x.u) = false := decide_eq_false HXT.out
            clear gx hw hx c0 c1 c2 c3 c4 c5 c6
            go_wp2
            have hxx : Ext wr wr.drew := Ext.drew (Ext.refl _)
            go_region_held3 (fun w' => w'.cell? ⟨b, off + i * 7 + 5, none⟩ = some (.int .i64 x.u)) (exact HSS.out _ hxx) ((go_at_call 24; refine (Clk.wait_any 64 _).mono ?_; rintro e w5 ⟨rfl, hx5⟩; replace hxx := Ext.trans hxx hx5; clear hx5))
            have HX5 := Lib.hid (Ext.trans HX4.out hxx)
            have HROW5 := Lib.hid (HROW3.out.ext (show Ext w3 _ from HX5.out))
            clear hxx
            go_wp2
            go_loopw [9] (fun j wr => A2 w5 i j wr) (fun j _ => i - (intOf j).toNat)
            case atStart => exact ⟨0, rfl, by omega, Ext.refl _⟩
            case round =>
              obtain ⟨j, rfl, hj, hx⟩ := hrel
              by_cases hji : j < i
              · obtain ⟨y, gy⟩ := get_of L j (by rw [HLM.out]; omega)
                have HX6 := Lib.hid hx
                obtain ⟨b', off', e0, _, c0, c1, c2, c3, c4, c5, c6⟩ := le_at (HROW5.out.ext hx) HG.out
                cases e0
                obtain ⟨b', off', e0, _, k0, k1, k2, k3, k4, k5, k6⟩ := le_at (HROW5.out.ext hx) gy
                cases e0
                have hj1 : (j : Int) < (i : Int) := by omega
                have hj0 : (0 : Int) ≤ (j : Int) := by omega
                have hjm : (j : Int) < (m : Int) := by omega
                have HCF : Hid (clashRB x y = false) := Lib.hid (by
                  have hx9 := List.mem_of_getElem? HG.out
                  have hy9 := List.mem_of_getElem? gy
                  rw [clashR_of (HI.out.one x hx9) (HI.out.one y hy9)]
                  exact HI.out.apart y hy9 x hx9)
                have HS6 : Hid (∀ w', Ext wr w' → (w'.cell? ⟨b, off + i * 7, none⟩ = some (.int .i64 x.c) ∧ w'.cell? ⟨b, off + i * 7 + 1, none⟩ = some (.int .i64 x.i) ∧ w'.cell? ⟨b, off + i * 7 + 2, none⟩ = some (.int .i64 x.k) ∧ w'.cell? ⟨b, off + i * 7 + 3, none⟩ = some (.int .i64 x.f) ∧ w'.cell? ⟨b, off + i * 7 + 4, none⟩ = some (.int .i64 x.t) ∧ w'.cell? ⟨b, off + i * 7 + 5, none⟩ = some (.int .i64 x.u) ∧ w'.cell? ⟨b, off + i * 7 + 6, none⟩ = some (.int .i64 x.e)) ∧ w'.cell? ⟨b, off + j * 7, none⟩ = some (.int .i64 y.c) ∧ w'.cell? ⟨b, off + j * 7 + 1, none⟩ = some (.int .i64 y.i) ∧ w'.cell? ⟨b, off + j * 7 + 2, none⟩ = some (.int .i64 y.k) ∧ w'.cell? ⟨b, off + j * 7 + 3, none⟩ = some (.int .i64 y.f) ∧ w'.cell? ⟨b, off + j * 7 + 4, none⟩ = some (.int .i64 y.t) ∧ w'.cell? ⟨b, off + j * 7 + 5, none⟩ = some (.int .i64 y.u) ∧ w'.cell? ⟨b, off + j * 7 + 6, none⟩ = some (.int .i64 y.e)) := Lib.hid (fun w' h => ⟨⟨h.cell c0, h.cell c1, h.cell c2, h.cell c3, h.cell c4, h.cell c5, h.cell c6⟩, h.cell k0, h.cell k1, h.cell k2, h.cell k3, h.cell k4, h.cell k5, h.cell k6⟩)
                clear gy hx c0 c1 c2 c3 c4 c5 c6 k0 k1 k2 k3 k4 k5 k6 HSS
                go_wp2
                have hxx : Ext wr wr.drew := Ext.drew (Ext.refl _)
                go_region_held3 (fun w' => (w'.cell? ⟨b, off + i * 7, none⟩ = some (.int .i64 x.c) ∧ w'.cell? ⟨b, off + i * 7 + 1, none⟩ = some (.int .i64 x.i) ∧ w'.cell? ⟨b, off + i * 7 + 2, none⟩ = some (.int .i64 x.k) ∧ w'.cell? ⟨b, off + i * 7 + 3, none⟩ = some (.int .i64 x.f) ∧ w'.cell? ⟨b, off + i * 7 + 4, none⟩ = some (.int .i64 x.t) ∧ w'.cell? ⟨b, off + i * 7 + 5, none⟩ = some (.int .i64 x.u) ∧ w'.cell? ⟨b, off + i * 7 + 6, none⟩ = some (.int .i64 x.e)) ∧ w'.cell? ⟨b, off + j * 7, none⟩ = some (.int .i64 y.c) ∧ w'.cell? ⟨b, off + j * 7 + 1, none⟩ = some (.int .i64 y.i) ∧ w'.cell? ⟨b, off + j * 7 + 2, none⟩ = some (.int .i64 y.k) ∧ w'.cell? ⟨b, off + j * 7 + 3, none⟩ = some (.int .i64 y.f) ∧ w'.cell? ⟨b, off + j * 7 + 4, none⟩ = some (.int .i64 y.t) ∧ w'.cell? ⟨b, off + j * 7 + 5, none⟩ = some (.int .i64 y.u) ∧ w'.cell? ⟨b, off + j * 7 + 6, none⟩ = some (.int .i64 y.e)) ((refine HS6.out _ ?_; first | (with_reducible exact hxx))) ((go_at_call 25; refine (rclash_any x y _).mono ?_; rintro e w7 ⟨rfl, hx7⟩; rw [HCF.out]; replace hxx := Ext.trans hxx hx7; clear hx7))
                have HX7 := Lib.hid (Ext.trans HX6.out hxx)
                clear hxx
                go_wp2
                go_roundw
                case rel => exact ⟨j + 1, by go_num, by omega, HX7.out⟩
                case measure => simp [intOf]; omega
              · obtain rfl : j = i := by omega
                go_wp2
                go_roundw
                case rel => exact ⟨j + 1, by go_num, by omega, Ext.trans HX5.out hx⟩
                case measure => simp [intOf]; omega
          · obtain rfl : i = m := by omega
            go_wp2
            go_roundw
            case rel => exact ⟨k + 1, by go_num, by omega, by omega, Ext.trans HX3.out hx⟩
            case measure => simp [intOf]; omega
      · have d2 : decide ((k : Int) ≤ (40 : Int)) = false := decide_eq_false (by omega)
        go_wp2
        go_ret
        exact ⟨rfl, HX.out⟩
    · have d1 : decide ((k : Int) ≤ (n : Int)) = false := decide_eq_false (by omega)
      go_wp2
      go_ret
      exact ⟨rfl, HX.out⟩
end Go.Proofs.Ytocnopgpdlfkjaa.Ls
