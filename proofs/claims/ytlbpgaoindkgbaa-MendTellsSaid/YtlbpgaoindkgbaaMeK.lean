/- Jobs: may they be a queue (the reference). -/
import Derived.Test.YtlbpgaoindkgbaaMeJ
namespace Go.Proofs.Ytlbpgaoindkgbaa.Me
open Go.RowKit Go.Proofs.Ytlbpgaoindkgbaa Go.Sort
set_option linter.unusedVariables false

def RRightR (w : World) (l : List Jb) (n : Nat) (i : Value) (wr : World) : Prop := ∃ k : Nat, i = .int .i64 k ∧ k ≤ n ∧ Hid (RightAt l k) ∧ Ext w wr
set_option maxRecDepth 100000 in
set_option maxHeartbeats 4000000 in
theorem rright_v (u : Value) (l : List Jb) (w : World) (hu : LJb.Sl w u l) (hn : l.length ≤ 1000) : Calls Try.prog 15 #[u] w (RetB (RightP l) w) := by
  obtain ⟨p, n, c, rfl, hl, hnc, hcm, hpl⟩ := hu
  have HP := Lib.hid hl
  have HPL := Lib.hid hpl
  have hn63 := hl.2.1
  clear hl hn hpl
  go_enter Try.func15, Try.ntmps15
  go_wp2
  go_loopw [3] (fun ix wr => RRightR w l n ix wr) (fun ix _ => n - (intOf ix).toNat)
  case atStart => exact ⟨0, rfl, by omega, Lib.hid (by intro i x hi; omega), Ext.refl _⟩
  case round =>
    obtain ⟨k, rfl, hk, HR, hx⟩ := hrel
    have HX := Lib.hid hx
    clear hx
    by_cases hlt : k < n
    · obtain ⟨x, gx⟩ := get_of l k (by rw [HP.out.1]; exact hlt)
      obtain ⟨b, off, rfl, hw, c0, c1, c2, c3, c4, c5⟩ := jb_at (HP.out.ext HX.out) gx
      have GX := Lib.hid gx
      have hlt' : (k : Int) < (n : Int) := by omega
      have hlt0 : (0 : Int) ≤ (k : Int) := by omega
      have HBAD : Hid (∀ (_ : ¬ (mayB x = true ∧ seenB (l.take k) x = false ∧ ∀ (j : Nat) (y : Jb), k = j + 1 → l[j]? = some y → aheadB y x = true)), ¬ RightP l) := Lib.hid (fun h hr => h (hr k x GX.out))
      have HGOOD : Hid (∀ (_ : mayB x = true ∧ seenB (l.take k) x = false ∧ ∀ (j : Nat) (y : Jb), k = j + 1 → l[j]? = some y → aheadB y x = true), RightAt l (k + 1)) := Lib.hid (fun h i z hi hz => by
        by_cases e : i = k
        · subst e; rw [GX.out] at hz; injection hz with hz; subst hz; exact h
        · exact HR.out i z (by omega) hz)
      clear gx hw
      obtain ⟨g, hg⟩ : ∃ g, mayB x = g := ⟨_, rfl⟩
      have HG := Lib.hid hg
      clear hg
      obtain ⟨s, hs⟩ : ∃ s, seenB (l.take k) x = s := ⟨_, rfl⟩
      have HQ := Lib.hid hs
      clear hs
      obtain ⟨q, hq⟩ : ∃ q, idxI (l.take k) x.i x.t = q := ⟨_, rfl⟩
      have HQ2 : Hid (0 ≤ q ↔ seenB (l.take k) x = true) := Lib.hid (by rw [← hq]; exact idx_seen _ _)
      have hlike : Hid (∀ g : Gr wr, Calls Try.prog 25 #[.slice (some ⟨b, off, none⟩) k c, .agg #[.int .i64 x.i, .int .i64 x.v, .int .i64 x.f, .int .i64 x.t, .int .i64 x.h, .int .i64 x.l]] g.w fun e w' => e = .returned (.int .i64 q) ∧ Ext g.w w') := Lib.hid (fun g => by
        have := alike_any (.slice (some ⟨b, off, none⟩) k c) (l.take k) x g.w (Lay.Sl.mk ((HP.out.ext (Ext.trans HX.out g.h)).pre k (by omega)) (by omega) hcm HPL.out)
        rwa [hq] at this)
      clear hq
      have slt : ∀ w, (Instr.slice 22 (.slice (some ⟨b, off, none⟩) n c) none (some (.int .i64 (k : Int))) none).run Try.prog w = .ok (.slice (some ⟨b, off, none⟩) k c) w := fun w => run_cut_to Try.underlying22 info_size _ _ _ _ _ rfl (by omega) HPL.out w
      cases k with
      | zero =>
        cases g
        · have d0 : ∀ g : Gr wr, g.w.cell? ⟨b, off + 0 * 6, none⟩ = some (.int .i64 x.i) := fun g => g.cell c0
          have d1 : ∀ g : Gr wr, g.w.cell? ⟨b, off + 0 * 6 + 1, none⟩ = some (.int .i64 x.v) := fun g => g.cell c1
          have d2 : ∀ g : Gr wr, g.w.cell? ⟨b, off + 0 * 6 + 2, none⟩ = some (.int .i64 x.f) := fun g => g.cell c2
          have d3 : ∀ g : Gr wr, g.w.cell? ⟨b, off + 0 * 6 + 3, none⟩ = some (.int .i64 x.t) := fun g => g.cell c3
          have d4 : ∀ g : Gr wr, g.w.cell? ⟨b, off + 0 * 6 + 4, none⟩ = some (.int .i64 x.h) := fun g => g.cell c4
          have d5 : ∀ g : Gr wr, g.w.cell? ⟨b, off + 0 * 6 + 5, none⟩ = some (.int .i64 x.l) := fun g => g.cell c5
          have D0 : ∀ g : Gr wr, g.w.cell? ⟨b, off, none⟩ = some (.int .i64 x.i) := fun g => by have := d0 g; simpa using this
          have D1 : ∀ g : Gr wr, g.w.cell? ⟨b, off + 1, none⟩ = some (.int .i64 x.v) := fun g => by have := d1 g; simpa using this
          have D2 : ∀ g : Gr wr, g.w.cell? ⟨b, off + 2, none⟩ = some (.int .i64 x.f) := fun g => by have := d2 g; simpa using this
          have D3 : ∀ g : Gr wr, g.w.cell? ⟨b, off + 3, none⟩ = some (.int .i64 x.t) := fun g => by have := d3 g; simpa using this
          have D4 : ∀ g : Gr wr, g.w.cell? ⟨b, off + 4, none⟩ = some (.int .i64 x.h) := fun g => by have := d4 g; simpa using this
          have D5 : ∀ g : Gr wr, g.w.cell? ⟨b, off + 5, none⟩ = some (.int .i64 x.l) := fun g => by have := d5 g; simpa using this
          have hmay : Hid (∀ W, Calls Try.prog 24 #[.agg #[.int .i64 x.i, .int .i64 x.v, .int .i64 x.f, .int .i64 x.t, .int .i64 x.h, .int .i64 x.l]] W fun e w' => e = .returned (.bool false) ∧ Ext W w') := Lib.hid (fun W => by have := rmay_any x W; rwa [HG.out] at this)
          clear c0 c1 c2 c3 c4 c5
          go_wp2
          refine wp_region_grown (Ext.refl wr) (by kernel_rfl) (by kernel_rfl) ?_
          repeat (go_big_quiet_step (first | (go_at_call 24; exact Gr.of (hmay.out _)) | (go_at_call 25; exact Gr.of (hlike.out _))))
          refine wpQuiet_nil ?_
          intro gw
          go_wp2
          go_ret
          exact retB_no rfl (HBAD.out (fun h => by rw [HG.out] at h; exact Bool.false_ne_true h.1)) (Ext.trans HX.out gw.h)
        cases s
        · have hd : decide (0 ≤ q) = false := decide_eq_false (fun h => by have := HQ2.out.1 h; rw [HQ.out] at this; exact Bool.false_ne_true this)
          have d0 : ∀ g : Gr wr, g.w.cell? ⟨b, off + 0 * 6, none⟩ = some (.int .i64 x.i) := fun g => g.cell c0
          have d1 : ∀ g : Gr wr, g.w.cell? ⟨b, off + 0 * 6 + 1, none⟩ = some (.int .i64 x.v) := fun g => g.cell c1
          have d2 : ∀ g : Gr wr, g.w.cell? ⟨b, off + 0 * 6 + 2, none⟩ = some (.int .i64 x.f) := fun g => g.cell c2
          have d3 : ∀ g : Gr wr, g.w.cell? ⟨b, off + 0 * 6 + 3, none⟩ = some (.int .i64 x.t) := fun g => g.cell c3
          have d4 : ∀ g : Gr wr, g.w.cell? ⟨b, off + 0 * 6 + 4, none⟩ = some (.int .i64 x.h) := fun g => g.cell c4
          have d5 : ∀ g : Gr wr, g.w.cell? ⟨b, off + 0 * 6 + 5, none⟩ = some (.int .i64 x.l) := fun g => g.cell c5
          have D0 : ∀ g : Gr wr, g.w.cell? ⟨b, off, none⟩ = some (.int .i64 x.i) := fun g => by have := d0 g; simpa using this
          have D1 : ∀ g : Gr wr, g.w.cell? ⟨b, off + 1, none⟩ = some (.int .i64 x.v) := fun g => by have := d1 g; simpa using this
          have D2 : ∀ g : Gr wr, g.w.cell? ⟨b, off + 2, none⟩ = some (.int .i64 x.f) := fun g => by have := d2 g; simpa using this
          have D3 : ∀ g : Gr wr, g.w.cell? ⟨b, off + 3, none⟩ = some (.int .i64 x.t) := fun g => by have := d3 g; simpa using this
          have D4 : ∀ g : Gr wr, g.w.cell? ⟨b, off + 4, none⟩ = some (.int .i64 x.h) := fun g => by have := d4 g; simpa using this
          have D5 : ∀ g : Gr wr, g.w.cell? ⟨b, off + 5, none⟩ = some (.int .i64 x.l) := fun g => by have := d5 g; simpa using this
          have hmay : Hid (∀ W, Calls Try.prog 24 #[.agg #[.int .i64 x.i, .int .i64 x.v, .int .i64 x.f, .int .i64 x.t, .int .i64 x.h, .int .i64 x.l]] W fun e w' => e = .returned (.bool true) ∧ Ext W w') := Lib.hid (fun W => by have := rmay_any x W; rwa [HG.out] at this)
          clear c0 c1 c2 c3 c4 c5
          go_wp2
          refine wp_region_grown (Ext.refl wr) (by kernel_rfl) (by kernel_rfl) ?_
          repeat (go_big_quiet_step (first | (go_at_call 24; exact Gr.of (hmay.out _)) | (go_at_call 25; exact Gr.of (hlike.out _))))
          refine wpQuiet_nil ?_
          intro gw
          have HGD := Lib.hid (HGOOD.out ⟨HG.out, HQ.out, fun j y h => by omega⟩)
          have HX2 := Lib.hid (Ext.trans HX.out gw.h)
          go_wp2
          go_roundw
          case rel => exact ⟨0 + 1, by go_num, by omega, HGD, HX2.out⟩
          case measure => simp [intOf]; omega
        · have hd : decide (0 ≤ q) = true := decide_eq_true (HQ2.out.2 HQ.out)
          have d0 : ∀ g : Gr wr, g.w.cell? ⟨b, off + 0 * 6, none⟩ = some (.int .i64 x.i) := fun g => g.cell c0
          have d1 : ∀ g : Gr wr, g.w.cell? ⟨b, off + 0 * 6 + 1, none⟩ = some (.int .i64 x.v) := fun g => g.cell c1
          have d2 : ∀ g : Gr wr, g.w.cell? ⟨b, off + 0 * 6 + 2, none⟩ = some (.int .i64 x.f) := fun g => g.cell c2
          have d3 : ∀ g : Gr wr, g.w.cell? ⟨b, off + 0 * 6 + 3, none⟩ = some (.int .i64 x.t) := fun g => g.cell c3
          have d4 : ∀ g : Gr wr, g.w.cell? ⟨b, off + 0 * 6 + 4, none⟩ = some (.int .i64 x.h) := fun g => g.cell c4
          have d5 : ∀ g : Gr wr, g.w.cell? ⟨b, off + 0 * 6 + 5, none⟩ = some (.int .i64 x.l) := fun g => g.cell c5
          have D0 : ∀ g : Gr wr, g.w.cell? ⟨b, off, none⟩ = some (.int .i64 x.i) := fun g => by have := d0 g; simpa using this
          have D1 : ∀ g : Gr wr, g.w.cell? ⟨b, off + 1, none⟩ = some (.int .i64 x.v) := fun g => by have := d1 g; simpa using this
          have D2 : ∀ g : Gr wr, g.w.cell? ⟨b, off + 2, none⟩ = some (.int .i64 x.f) := fun g => by have := d2 g; simpa using this
          have D3 : ∀ g : Gr wr, g.w.cell? ⟨b, off + 3, none⟩ = some (.int .i64 x.t) := fun g => by have := d3 g; simpa using this
          have D4 : ∀ g : Gr wr, g.w.cell? ⟨b, off + 4, none⟩ = some (.int .i64 x.h) := fun g => by have := d4 g; simpa using this
          have D5 : ∀ g : Gr wr, g.w.cell? ⟨b, off + 5, none⟩ = some (.int .i64 x.l) := fun g => by have := d5 g; simpa using this
          have hmay : Hid (∀ W, Calls Try.prog 24 #[.agg #[.int .i64 x.i, .int .i64 x.v, .int .i64 x.f, .int .i64 x.t, .int .i64 x.h, .int .i64 x.l]] W fun e w' => e = .returned (.bool true) ∧ Ext W w') := Lib.hid (fun W => by have := rmay_any x W; rwa [HG.out] at this)
          clear c0 c1 c2 c3 c4 c5
          go_wp2
          refine wp_region_grown (Ext.refl wr) (by kernel_rfl) (by kernel_rfl) ?_
          repeat (go_big_quiet_step (first | (go_at_call 24; exact Gr.of (hmay.out _)) | (go_at_call 25; exact Gr.of (hlike.out _))))
          refine wpQuiet_nil ?_
          intro gw
          go_wp2
          go_ret
          exact retB_no rfl (HBAD.out (fun h => by rw [HQ.out] at h; exact Bool.false_ne_true h.2.1.symm)) (Ext.trans HX.out gw.h)
      | succ j =>
        obtain ⟨y, gy⟩ := get_of l j (by rw [HP.out.1]; omega)
        obtain ⟨b2, off2, hbo, _, y0, y1, y2, y3, y4, y5⟩ := jb_at (HP.out.ext HX.out) gy
        obtain ⟨rfl, rfl⟩ : b = b2 ∧ off = off2 := by injection hbo with hbo; injection hbo with h1 h2; exact ⟨h1, h2⟩
        have GY := Lib.hid gy
        clear gy hbo
        obtain ⟨ah, hah0⟩ : ∃ ah, aheadB y x = ah := ⟨_, rfl⟩
        have HA := Lib.hid hah0
        clear hah0
        have hj0 : (0 : Int) ≤ (j : Int) := by omega
        have hj1 : (j : Int) < (n : Int) := by omega
        have hi1 : (0 : Int) < ((j + 1 : Nat) : Int) := by omega
        have hw1 : IntKind.i64.wrap (((j + 1 : Nat) : Int) - 1) = (j : Int) := by
          rw [show (((j + 1 : Nat) : Int) - 1) = (j : Int) by omega]; exact IntWalk.i64_in _ (by omega)
        have hw2 : IntKind.i64.wrap ((j : Int) + 1 - 1) = (j : Int) := by
          rw [show ((j : Int) + 1 - 1) = (j : Int) by omega]; exact IntWalk.i64_in _ (by omega)
        cases g
        · have d0 : ∀ g : Gr wr, g.w.cell? ⟨b, off + (j + 1) * 6, none⟩ = some (.int .i64 x.i) := fun g => g.cell c0
          have d1 : ∀ g : Gr wr, g.w.cell? ⟨b, off + (j + 1) * 6 + 1, none⟩ = some (.int .i64 x.v) := fun g => g.cell c1
          have d2 : ∀ g : Gr wr, g.w.cell? ⟨b, off + (j + 1) * 6 + 2, none⟩ = some (.int .i64 x.f) := fun g => g.cell c2
          have d3 : ∀ g : Gr wr, g.w.cell? ⟨b, off + (j + 1) * 6 + 3, none⟩ = some (.int .i64 x.t) := fun g => g.cell c3
          have d4 : ∀ g : Gr wr, g.w.cell? ⟨b, off + (j + 1) * 6 + 4, none⟩ = some (.int .i64 x.h) := fun g => g.cell c4
          have d5 : ∀ g : Gr wr, g.w.cell? ⟨b, off + (j + 1) * 6 + 5, none⟩ = some (.int .i64 x.l) := fun g => g.cell c5
          have f0 : ∀ g : Gr wr, g.w.cell? ⟨b, off + j * 6, none⟩ = some (.int .i64 y.i) := fun g => g.cell y0
          have f1 : ∀ g : Gr wr, g.w.cell? ⟨b, off + j * 6 + 1, none⟩ = some (.int .i64 y.v) := fun g => g.cell y1
          have f2 : ∀ g : Gr wr, g.w.cell? ⟨b, off + j * 6 + 2, none⟩ = some (.int .i64 y.f) := fun g => g.cell y2
          have f3 : ∀ g : Gr wr, g.w.cell? ⟨b, off + j * 6 + 3, none⟩ = some (.int .i64 y.t) := fun g => g.cell y3
          have f4 : ∀ g : Gr wr, g.w.cell? ⟨b, off + j * 6 + 4, none⟩ = some (.int .i64 y.h) := fun g => g.cell y4
          have f5 : ∀ g : Gr wr, g.w.cell? ⟨b, off + j * 6 + 5, none⟩ = some (.int .i64 y.l) := fun g => g.cell y5
          have hmay : Hid (∀ W, Calls Try.prog 24 #[.agg #[.int .i64 x.i, .int .i64 x.v, .int .i64 x.f, .int .i64 x.t, .int .i64 x.h, .int .i64 x.l]] W fun e w' => e = .returned (.bool false) ∧ Ext W w') := Lib.hid (fun W => by have := rmay_any x W; rwa [HG.out] at this)
          have hah : Hid (∀ W, Calls Try.prog 26 #[.agg #[.int .i64 y.i, .int .i64 y.v, .int .i64 y.f, .int .i64 y.t, .int .i64 y.h, .int .i64 y.l], .agg #[.int .i64 x.i, .int .i64 x.v, .int .i64 x.f, .int .i64 x.t, .int .i64 x.h, .int .i64 x.l]] W fun e w' => e = .returned (.bool ah) ∧ Ext W w') := Lib.hid (fun W => by have := ahead_any y x W; rwa [HA.out] at this)
          clear c0 c1 c2 c3 c4 c5 y0 y1 y2 y3 y4 y5
          go_wp2
          refine wp_region_grown (Ext.refl wr) (by kernel_rfl) (by kernel_rfl) ?_
          repeat (go_big_quiet_step (first | (go_at_call 24; exact Gr.of (hmay.out _)) | (go_at_call 25; exact Gr.of (hlike.out _)) | (go_at_call 26; exact Gr.of (hah.out _))))
          refine wpQuiet_nil ?_
          intro gw
          go_wp2
          go_ret
          exact retB_no rfl (HBAD.out (fun h => by rw [HG.out] at h; exact Bool.false_ne_true h.1)) (Ext.trans HX.out gw.h)
        cases s
        · have hd : decide (0 ≤ q) = false := decide_eq_false (fun h => by have := HQ2.out.1 h; rw [HQ.out] at this; exact Bool.false_ne_true this)
          cases ah
          · have d0 : ∀ g : Gr wr, g.w.cell? ⟨b, off + (j + 1) * 6, none⟩ = some (.int .i64 x.i) := fun g => g.cell c0
            have d1 : ∀ g : Gr wr, g.w.cell? ⟨b, off + (j + 1) * 6 + 1, none⟩ = some (.int .i64 x.v) := fun g => g.cell c1
            have d2 : ∀ g : Gr wr, g.w.cell? ⟨b, off + (j + 1) * 6 + 2, none⟩ = some (.int .i64 x.f) := fun g => g.cell c2
            have d3 : ∀ g : Gr wr, g.w.cell? ⟨b, off + (j + 1) * 6 + 3, none⟩ = some (.int .i64 x.t) := fun g => g.cell c3
            have d4 : ∀ g : Gr wr, g.w.cell? ⟨b, off + (j + 1) * 6 + 4, none⟩ = some (.int .i64 x.h) := fun g => g.cell c4
            have d5 : ∀ g : Gr wr, g.w.cell? ⟨b, off + (j + 1) * 6 + 5, none⟩ = some (.int .i64 x.l) := fun g => g.cell c5
            have f0 : ∀ g : Gr wr, g.w.cell? ⟨b, off + j * 6, none⟩ = some (.int .i64 y.i) := fun g => g.cell y0
            have f1 : ∀ g : Gr wr, g.w.cell? ⟨b, off + j * 6 + 1, none⟩ = some (.int .i64 y.v) := fun g => g.cell y1
            have f2 : ∀ g : Gr wr, g.w.cell? ⟨b, off + j * 6 + 2, none⟩ = some (.int .i64 y.f) := fun g => g.cell y2
            have f3 : ∀ g : Gr wr, g.w.cell? ⟨b, off + j * 6 + 3, none⟩ = some (.int .i64 y.t) := fun g => g.cell y3
            have f4 : ∀ g : Gr wr, g.w.cell? ⟨b, off + j * 6 + 4, none⟩ = some (.int .i64 y.h) := fun g => g.cell y4
            have f5 : ∀ g : Gr wr, g.w.cell? ⟨b, off + j * 6 + 5, none⟩ = some (.int .i64 y.l) := fun g => g.cell y5
            have hmay : Hid (∀ W, Calls Try.prog 24 #[.agg #[.int .i64 x.i, .int .i64 x.v, .int .i64 x.f, .int .i64 x.t, .int .i64 x.h, .int .i64 x.l]] W fun e w' => e = .returned (.bool true) ∧ Ext W w') := Lib.hid (fun W => by have := rmay_any x W; rwa [HG.out] at this)
            have hah : Hid (∀ W, Calls Try.prog 26 #[.agg #[.int .i64 y.i, .int .i64 y.v, .int .i64 y.f, .int .i64 y.t, .int .i64 y.h, .int .i64 y.l], .agg #[.int .i64 x.i, .int .i64 x.v, .int .i64 x.f, .int .i64 x.t, .int .i64 x.h, .int .i64 x.l]] W fun e w' => e = .returned (.bool false) ∧ Ext W w') := Lib.hid (fun W => by have := ahead_any y x W; rwa [HA.out] at this)
            clear c0 c1 c2 c3 c4 c5 y0 y1 y2 y3 y4 y5
            go_wp2
            refine wp_region_grown (Ext.refl wr) (by kernel_rfl) (by kernel_rfl) ?_
            repeat (go_big_quiet_step (first | (go_at_call 24; exact Gr.of (hmay.out _)) | (go_at_call 25; exact Gr.of (hlike.out _)) | (go_at_call 26; exact Gr.of (hah.out _))))
            refine wpQuiet_nil ?_
            intro gw
            go_wp2
            go_ret
            exact retB_no rfl (HBAD.out (fun h => by have := h.2.2 j y rfl GY.out; rw [HA.out] at this; exact Bool.false_ne_true this)) (Ext.trans HX.out gw.h)
          · have d0 : ∀ g : Gr wr, g.w.cell? ⟨b, off + (j + 1) * 6, none⟩ = some (.int .i64 x.i) := fun g => g.cell c0
            have d1 : ∀ g : Gr wr, g.w.cell? ⟨b, off + (j + 1) * 6 + 1, none⟩ = some (.int .i64 x.v) := fun g => g.cell c1
            have d2 : ∀ g : Gr wr, g.w.cell? ⟨b, off + (j + 1) * 6 + 2, none⟩ = some (.int .i64 x.f) := fun g => g.cell c2
            have d3 : ∀ g : Gr wr, g.w.cell? ⟨b, off + (j + 1) * 6 + 3, none⟩ = some (.int .i64 x.t) := fun g => g.cell c3
            have d4 : ∀ g : Gr wr, g.w.cell? ⟨b, off + (j + 1) * 6 + 4, none⟩ = some (.int .i64 x.h) := fun g => g.cell c4
            have d5 : ∀ g : Gr wr, g.w.cell? ⟨b, off + (j + 1) * 6 + 5, none⟩ = some (.int .i64 x.l) := fun g => g.cell c5
            have f0 : ∀ g : Gr wr, g.w.cell? ⟨b, off + j * 6, none⟩ = some (.int .i64 y.i) := fun g => g.cell y0
            have f1 : ∀ g : Gr wr, g.w.cell? ⟨b, off + j * 6 + 1, none⟩ = some (.int .i64 y.v) := fun g => g.cell y1
            have f2 : ∀ g : Gr wr, g.w.cell? ⟨b, off + j * 6 + 2, none⟩ = some (.int .i64 y.f) := fun g => g.cell y2
            have f3 : ∀ g : Gr wr, g.w.cell? ⟨b, off + j * 6 + 3, none⟩ = some (.int .i64 y.t) := fun g => g.cell y3
            have f4 : ∀ g : Gr wr, g.w.cell? ⟨b, off + j * 6 + 4, none⟩ = some (.int .i64 y.h) := fun g => g.cell y4
            have f5 : ∀ g : Gr wr, g.w.cell? ⟨b, off + j * 6 + 5, none⟩ = some (.int .i64 y.l) := fun g => g.cell y5
            have hmay : Hid (∀ W, Calls Try.prog 24 #[.agg #[.int .i64 x.i, .int .i64 x.v, .int .i64 x.f, .int .i64 x.t, .int .i64 x.h, .int .i64 x.l]] W fun e w' => e = .returned (.bool true) ∧ Ext W w') := Lib.hid (fun W => by have := rmay_any x W; rwa [HG.out] at this)
            have hah : Hid (∀ W, Calls Try.prog 26 #[.agg #[.int .i64 y.i, .int .i64 y.v, .int .i64 y.f, .int .i64 y.t, .int .i64 y.h, .int .i64 y.l], .agg #[.int .i64 x.i, .int .i64 x.v, .int .i64 x.f, .int .i64 x.t, .int .i64 x.h, .int .i64 x.l]] W fun e w' => e = .returned (.bool true) ∧ Ext W w') := Lib.hid (fun W => by have := ahead_any y x W; rwa [HA.out] at this)
            clear c0 c1 c2 c3 c4 c5 y0 y1 y2 y3 y4 y5
            go_wp2
            refine wp_region_grown (Ext.refl wr) (by kernel_rfl) (by kernel_rfl) ?_
            repeat (go_big_quiet_step (first | (go_at_call 24; exact Gr.of (hmay.out _)) | (go_at_call 25; exact Gr.of (hlike.out _)) | (go_at_call 26; exact Gr.of (hah.out _))))
            refine wpQuiet_nil ?_
            intro gw
            have HGD := Lib.hid (HGOOD.out ⟨HG.out, HQ.out, fun j' y' h h' => by (obtain rfl : j' = j := by omega); rw [GY.out] at h'; injection h' with h'; subst h'; exact HA.out⟩)
            have HX2 := Lib.hid (Ext.trans HX.out gw.h)
            go_wp2
            go_roundw
            case rel => exact ⟨(j + 1) + 1, by go_num, by omega, HGD, HX2.out⟩
            case measure => simp [intOf]; omega
        · have hd : decide (0 ≤ q) = true := decide_eq_true (HQ2.out.2 HQ.out)
          have d0 : ∀ g : Gr wr, g.w.cell? ⟨b, off + (j + 1) * 6, none⟩ = some (.int .i64 x.i) := fun g => g.cell c0
          have d1 : ∀ g : Gr wr, g.w.cell? ⟨b, off + (j + 1) * 6 + 1, none⟩ = some (.int .i64 x.v) := fun g => g.cell c1
          have d2 : ∀ g : Gr wr, g.w.cell? ⟨b, off + (j + 1) * 6 + 2, none⟩ = some (.int .i64 x.f) := fun g => g.cell c2
          have d3 : ∀ g : Gr wr, g.w.cell? ⟨b, off + (j + 1) * 6 + 3, none⟩ = some (.int .i64 x.t) := fun g => g.cell c3
          have d4 : ∀ g : Gr wr, g.w.cell? ⟨b, off + (j + 1) * 6 + 4, none⟩ = some (.int .i64 x.h) := fun g => g.cell c4
          have d5 : ∀ g : Gr wr, g.w.cell? ⟨b, off + (j + 1) * 6 + 5, none⟩ = some (.int .i64 x.l) := fun g => g.cell c5
          have f0 : ∀ g : Gr wr, g.w.cell? ⟨b, off + j * 6, none⟩ = some (.int .i64 y.i) := fun g => g.cell y0
          have f1 : ∀ g : Gr wr, g.w.cell? ⟨b, off + j * 6 + 1, none⟩ = some (.int .i64 y.v) := fun g => g.cell y1
          have f2 : ∀ g : Gr wr, g.w.cell? ⟨b, off + j * 6 + 2, none⟩ = some (.int .i64 y.f) := fun g => g.cell y2
          have f3 : ∀ g : Gr wr, g.w.cell? ⟨b, off + j * 6 + 3, none⟩ = some (.int .i64 y.t) := fun g => g.cell y3
          have f4 : ∀ g : Gr wr, g.w.cell? ⟨b, off + j * 6 + 4, none⟩ = some (.int .i64 y.h) := fun g => g.cell y4
          have f5 : ∀ g : Gr wr, g.w.cell? ⟨b, off + j * 6 + 5, none⟩ = some (.int .i64 y.l) := fun g => g.cell y5
          have hmay : Hid (∀ W, Calls Try.prog 24 #[.agg #[.int .i64 x.i, .int .i64 x.v, .int .i64 x.f, .int .i64 x.t, .int .i64 x.h, .int .i64 x.l]] W fun e w' => e = .returned (.bool true) ∧ Ext W w') := Lib.hid (fun W => by have := rmay_any x W; rwa [HG.out] at this)
          have hah : Hid (∀ W, Calls Try.prog 26 #[.agg #[.int .i64 y.i, .int .i64 y.v, .int .i64 y.f, .int .i64 y.t, .int .i64 y.h, .int .i64 y.l], .agg #[.int .i64 x.i, .int .i64 x.v, .int .i64 x.f, .int .i64 x.t, .int .i64 x.h, .int .i64 x.l]] W fun e w' => e = .returned (.bool ah) ∧ Ext W w') := Lib.hid (fun W => by have := ahead_any y x W; rwa [HA.out] at this)
          clear c0 c1 c2 c3 c4 c5 y0 y1 y2 y3 y4 y5
          go_wp2
          refine wp_region_grown (Ext.refl wr) (by kernel_rfl) (by kernel_rfl) ?_
          repeat (go_big_quiet_step (first | (go_at_call 24; exact Gr.of (hmay.out _)) | (go_at_call 25; exact Gr.of (hlike.out _)) | (go_at_call 26; exact Gr.of (hah.out _))))
          refine wpQuiet_nil ?_
          intro gw
          go_wp2
          go_ret
          exact retB_no rfl (HBAD.out (fun h => by rw [HQ.out] at h; exact Bool.false_ne_true h.2.1.symm)) (Ext.trans HX.out gw.h)
    · obtain rfl : k = n := by omega
      go_wp2
      go_ret
      exact retB_yes rfl (fun i x hx => HR.out i x (by have := (List.getElem?_eq_some_iff.1 hx).1; have := HP.out.1; omega) hx) HX.out
end Go.Proofs.Ytlbpgaoindkgbaa.Me
