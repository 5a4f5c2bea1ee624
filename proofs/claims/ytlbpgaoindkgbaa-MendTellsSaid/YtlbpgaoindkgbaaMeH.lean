/- Jobs: may they be a queue. -/
import Derived.Test.YtlbpgaoindkgbaaMeG
import Derived.Test.YtlbpgaoindkgbaaGrow
namespace Go.Proofs.Ytlbpgaoindkgbaa.Me
open Go.RowKit Go.Proofs.Ytlbpgaoindkgbaa Go.Sort
set_option linter.unusedVariables false

theorem ext_grow (w : World) (q : Nat) (os : Array Obj) : Ext w (grow (w.drewN q) os) := by
  refine ⟨rfl, rfl, rfl, ?_, fun k hk => ?_⟩
  · rw [size_grow]; show _ ≤ w.heap.size + _; omega
  · show (w.heap ++ os)[k]? = _
    rw [Array.getElem?_append_left hk]
theorem cmpj_e (x y : Jb) (w : World) : Calls Try.prog 30 #[.agg #[.int .i64 x.i, .int .i64 x.v, .int .i64 x.f, .int .i64 x.t, .int .i64 x.h, .int .i64 x.l], .agg #[.int .i64 y.i, .int .i64 y.v, .int .i64 y.f, .int .i64 y.t, .int .i64 y.h, .int .i64 y.l]] w fun e w' => e = .returned (.int .i64 (cmpJ x y)) ∧ Ext w w' :=
  (cmpj_any x y w).mono fun e w' ⟨h, q, os, hw⟩ => ⟨h, by rw [hw]; exact ext_grow w q os⟩
/-- a queue -/
def RightP (l : List Jb) : Prop := ∀ (k : Nat) (x : Jb), l[k]? = some x → mayB x = true ∧ seenB (l.take k) x = false ∧ ∀ (j : Nat) (y : Jb), k = j + 1 → l[j]? = some y → aheadB y x = true
def RightAt (l : List Jb) (k : Nat) : Prop := ∀ (i : Nat) (x : Jb), i < k → l[i]? = some x → mayB x = true ∧ seenB (l.take i) x = false ∧ ∀ (j : Nat) (y : Jb), i = j + 1 → l[j]? = some y → aheadB y x = true
def RetB (P : Prop) (w : World) (e : Ending) (w' : World) : Prop := (∃ b, e = .returned (.bool b) ∧ (b = true ↔ P)) ∧ Ext w w'
theorem retB_no {P : Prop} {w w' : World} {e : Ending} (he : e = .returned (.bool false)) (h : ¬ P) (hx : Ext w w') : RetB P w e w' := ⟨⟨false, he, by simp [h]⟩, hx⟩
theorem retB_yes {P : Prop} {w w' : World} {e : Ending} (he : e = .returned (.bool true)) (h : P) (hx : Ext w w') : RetB P w e w' := ⟨⟨true, he, by simp [h]⟩, hx⟩
def MRightR (w : World) (l : List Jb) (n : Nat) (i : Value) (wr : World) : Prop := ∃ k : Nat, i = .int .i64 k ∧ k ≤ n ∧ Hid (RightAt l k) ∧ SeenR wr w.heap.size k (l.take k) ∧ Ext w wr
set_option maxRecDepth 100000 in
set_option maxHeartbeats 4000000 in
theorem right_v (u : Value) (l : List Jb) (w : World) (hu : LJb.Sl w u l) (hn : l.length ≤ 1000) : Calls Try.prog 14 #[u] w (RetB (RightP l) w) := by
  obtain ⟨p, n, c, rfl, hl, _, _, _⟩ := hu
  have HP := Lib.hid hl
  have hn63 := hl.2.1
  have HN : Hid (n ≤ 1000) := Lib.hid (by rw [← hl.1]; exact hn)
  clear hl hn
  have hmm := @run_makeMap Try.prog
  go_enter Try.func14, Try.ntmps14
  go_wp2
  clear hmm
  go_loopw [4, 5, 9] (fun _ _ ix wr => MRightR w l n ix wr) (fun _ _ ix _ => n - (intOf ix).toNat)
  case atStart => exact ⟨0, rfl, by omega, Lib.hid (by intro i x hi; omega), seen_made w, Ext.alloc _ _⟩
  case round =>
    obtain ⟨k, rfl, hk, HR, hseen, hx⟩ := hrel
    have HSE := Lib.hid hseen
    have HX := Lib.hid hx
    clear hseen hx
    by_cases hlt : k < n
    · obtain ⟨x, gx⟩ := get_of l k (by rw [HP.out.1]; exact hlt)
      obtain ⟨b, off, rfl, hw, c0, c1, c2, c3, c4, c5⟩ := jb_at (HP.out.ext HX.out) gx
      have HW := Lib.hid hw
      have GX := Lib.hid gx
      have hlt' : (k : Int) < (n : Int) := by omega
      have hlt0 : (0 : Int) ≤ (k : Int) := by omega
      have HH : Hid (w.heap.size < wr.heap.size) := Lib.hid HSE.out.lt
      have HBAD : Hid (∀ (_ : ¬ (mayB x = true ∧ seenB (l.take k) x = false ∧ ∀ (j : Nat) (y : Jb), k = j + 1 → l[j]? = some y → aheadB y x = true)), ¬ RightP l) := Lib.hid (fun h hr => h (hr k x GX.out))
      have HGOOD : Hid (∀ (_ : mayB x = true ∧ seenB (l.take k) x = false ∧ ∀ (j : Nat) (y : Jb), k = j + 1 → l[j]? = some y → aheadB y x = true), RightAt l (k + 1)) := Lib.hid (fun h i z hi hz => by
        by_cases e : i = k
        · subst e; rw [GX.out] at hz; injection hz with hz; subst hz; exact h
        · exact HR.out i z (by omega) hz)
      have HTK : Hid (l.take (k + 1) = l.take k ++ [x]) := Lib.hid (by rw [List.take_add_one, gx]; rfl)
      clear gx hw
      obtain ⟨g, hg⟩ : ∃ g, mayB x = g := ⟨_, rfl⟩
      have HG := Lib.hid hg
      clear hg
      obtain ⟨q, hq⟩ : ∃ q, seenB (l.take k) x = q := ⟨_, rfl⟩
      have HQ := Lib.hid hq
      clear hq
      obtain ⟨w1, hw1⟩ : ∃ w1, wr.alloc (.cells #[.int .i64 x.i, .int .i64 x.v, .int .i64 x.f, .int .i64 x.t, .int .i64 x.h, .int .i64 x.l] 33) = w1 := ⟨_, rfl⟩
      have HX1 : Hid (Ext wr w1) := Lib.hid (by rw [← hw1]; exact Ext.alloc _ _)
      have b0 : w1.cell? ⟨wr.heap.size, 0, none⟩ = some (.int .i64 x.i) := by rw [← hw1]; exact cell_of_row _ _ 0 _ _ _ (heap_alloc_new wr _)
      have b1 : w1.cell? ⟨wr.heap.size, 1, none⟩ = some (.int .i64 x.v) := by rw [← hw1]; exact cell_of_row _ _ 1 _ _ _ (heap_alloc_new wr _)
      have b2 : w1.cell? ⟨wr.heap.size, 2, none⟩ = some (.int .i64 x.f) := by rw [← hw1]; exact cell_of_row _ _ 2 _ _ _ (heap_alloc_new wr _)
      have b3 : w1.cell? ⟨wr.heap.size, 3, none⟩ = some (.int .i64 x.t) := by rw [← hw1]; exact cell_of_row _ _ 3 _ _ _ (heap_alloc_new wr _)
      have b4 : w1.cell? ⟨wr.heap.size, 4, none⟩ = some (.int .i64 x.h) := by rw [← hw1]; exact cell_of_row _ _ 4 _ _ _ (heap_alloc_new wr _)
      have b5 : w1.cell? ⟨wr.heap.size, 5, none⟩ = some (.int .i64 x.l) := by rw [← hw1]; exact cell_of_row _ _ 5 _ _ _ (heap_alloc_new wr _)
      have HSE1 := Lib.hid (HSE.out.ext HX1.out)
      have HXX := Lib.hid (Ext.trans HX.out HX1.out)
      go_wp2
      try rw [hw1]
      clear hw1
      cases k with
      | zero =>
        cases g
        · have d0 : ∀ g : Gr w1, g.w.cell? ⟨wr.heap.size, 0, none⟩ = some (.int .i64 x.i) := fun g => g.cell b0
          have d1 : ∀ g : Gr w1, g.w.cell? ⟨wr.heap.size, 1, none⟩ = some (.int .i64 x.v) := fun g => g.cell b1
          have d2 : ∀ g : Gr w1, g.w.cell? ⟨wr.heap.size, 2, none⟩ = some (.int .i64 x.f) := fun g => g.cell b2
          have d3 : ∀ g : Gr w1, g.w.cell? ⟨wr.heap.size, 3, none⟩ = some (.int .i64 x.t) := fun g => g.cell b3
          have d4 : ∀ g : Gr w1, g.w.cell? ⟨wr.heap.size, 4, none⟩ = some (.int .i64 x.h) := fun g => g.cell b4
          have d5 : ∀ g : Gr w1, g.w.cell? ⟨wr.heap.size, 5, none⟩ = some (.int .i64 x.l) := fun g => g.cell b5
          have hlk : ∀ g : Gr w1, (Instr.lookup 44 (.map (some w.heap.size)) (.agg #[.int .i64 x.i, .int .i64 x.t]) false).run Try.prog g.w = .ok (.bool q) g.w := fun g => by have h1 := (HSE1.out.ext g.h).look HW.out.1 HW.out.2.2.2.1; unfold keyV at h1; have h2 := HQ.out; unfold seenB at h2; rw [h1, h2]
          have hmay : Hid (∀ W, Calls Try.prog 28 #[.agg #[.int .i64 x.i, .int .i64 x.v, .int .i64 x.f, .int .i64 x.t, .int .i64 x.h, .int .i64 x.l]] W fun e w' => e = .returned (.bool false) ∧ Ext W w') := Lib.hid (fun W => by have := may_any x W; rwa [HG.out] at this)
          clear b0 b1 b2 b3 b4 b5
          refine wp_region_grown (Ext.refl w1) (by kernel_rfl) (by kernel_rfl) ?_
          repeat (go_big_quiet_step (first | (go_at_call 28; exact Gr.of (hmay.out _)) | (go_at_call 29; exact Gr.of (target_any x _))))
          refine wpQuiet_nil ?_
          intro gw
          go_wp2
          go_ret
          exact retB_no rfl (HBAD.out (fun h => by rw [HG.out] at h; exact Bool.false_ne_true h.1)) (Ext.trans HXX.out gw.h)
        cases q
        · have d0 : ∀ g : Gr w1, g.w.cell? ⟨wr.heap.size, 0, none⟩ = some (.int .i64 x.i) := fun g => g.cell b0
          have d1 : ∀ g : Gr w1, g.w.cell? ⟨wr.heap.size, 1, none⟩ = some (.int .i64 x.v) := fun g => g.cell b1
          have d2 : ∀ g : Gr w1, g.w.cell? ⟨wr.heap.size, 2, none⟩ = some (.int .i64 x.f) := fun g => g.cell b2
          have d3 : ∀ g : Gr w1, g.w.cell? ⟨wr.heap.size, 3, none⟩ = some (.int .i64 x.t) := fun g => g.cell b3
          have d4 : ∀ g : Gr w1, g.w.cell? ⟨wr.heap.size, 4, none⟩ = some (.int .i64 x.h) := fun g => g.cell b4
          have d5 : ∀ g : Gr w1, g.w.cell? ⟨wr.heap.size, 5, none⟩ = some (.int .i64 x.l) := fun g => g.cell b5
          have hlk : ∀ g : Gr w1, (Instr.lookup 44 (.map (some w.heap.size)) (.agg #[.int .i64 x.i, .int .i64 x.t]) false).run Try.prog g.w = .ok (.bool false) g.w := fun g => by have h1 := (HSE1.out.ext g.h).look HW.out.1 HW.out.2.2.2.1; unfold keyV at h1; have h2 := HQ.out; unfold seenB at h2; rw [h1, h2]
          have hmay : Hid (∀ W, Calls Try.prog 28 #[.agg #[.int .i64 x.i, .int .i64 x.v, .int .i64 x.f, .int .i64 x.t, .int .i64 x.h, .int .i64 x.l]] W fun e w' => e = .returned (.bool true) ∧ Ext W w') := Lib.hid (fun W => by have := may_any x W; rwa [HG.out] at this)
          clear b0 b1 b2 b3 b4 b5
          refine wp_region_grown (Ext.refl w1) (by kernel_rfl) (by kernel_rfl) ?_
          repeat (go_big_quiet_step (first | (go_at_call 28; exact Gr.of (hmay.out _)) | (go_at_call 29; exact Gr.of (target_any x _))))
          refine wpQuiet_nil ?_
          intro gw
          have HGD := Lib.hid (HGOOD.out ⟨HG.out, HQ.out, fun j y h => by omega⟩)
          have HSE2 := Lib.hid (HSE1.out.ext gw.h)
          have HX2 := Lib.hid (Ext.trans HXX.out gw.h)
          go_wp2_with fail
          refine (target_any x _).mono ?_
          rintro e w2 ⟨rfl, hx2⟩
          have HSE3 := Lib.hid (HSE2.out.ext hx2)
          have HX3 := Lib.hid (Ext.trans HX2.out hx2)
          clear hx2
          go_wp2_with (at_mapUpdate; refine wpList_mark rfl (.tmp 37) (.tmp 39) _ rfl w.heap.size 0 (l.take 0) rfl HSE3.out (by unfold maxLen; omega) x HW.out rfl rfl ?_; intro w4 hse hgr; (have HSE4 := Lib.hid hse); (have HX4 := Lib.hid (Lay.grown_old HX3.out (fun k hk => by injection hk with hk; subst hk; exact Nat.le_refl _) hgr)); clear hse hgr)
          go_roundw
          case rel => exact ⟨0 + 1, by go_num, by omega, HGD, by rw [HTK.out]; exact HSE4.out, HX4.out⟩
          case measure => simp [intOf]; omega
        · have d0 : ∀ g : Gr w1, g.w.cell? ⟨wr.heap.size, 0, none⟩ = some (.int .i64 x.i) := fun g => g.cell b0
          have d1 : ∀ g : Gr w1, g.w.cell? ⟨wr.heap.size, 1, none⟩ = some (.int .i64 x.v) := fun g => g.cell b1
          have d2 : ∀ g : Gr w1, g.w.cell? ⟨wr.heap.size, 2, none⟩ = some (.int .i64 x.f) := fun g => g.cell b2
          have d3 : ∀ g : Gr w1, g.w.cell? ⟨wr.heap.size, 3, none⟩ = some (.int .i64 x.t) := fun g => g.cell b3
          have d4 : ∀ g : Gr w1, g.w.cell? ⟨wr.heap.size, 4, none⟩ = some (.int .i64 x.h) := fun g => g.cell b4
          have d5 : ∀ g : Gr w1, g.w.cell? ⟨wr.heap.size, 5, none⟩ = some (.int .i64 x.l) := fun g => g.cell b5
          have hlk : ∀ g : Gr w1, (Instr.lookup 44 (.map (some w.heap.size)) (.agg #[.int .i64 x.i, .int .i64 x.t]) false).run Try.prog g.w = .ok (.bool true) g.w := fun g => by have h1 := (HSE1.out.ext g.h).look HW.out.1 HW.out.2.2.2.1; unfold keyV at h1; have h2 := HQ.out; unfold seenB at h2; rw [h1, h2]
          have hmay : Hid (∀ W, Calls Try.prog 28 #[.agg #[.int .i64 x.i, .int .i64 x.v, .int .i64 x.f, .int .i64 x.t, .int .i64 x.h, .int .i64 x.l]] W fun e w' => e = .returned (.bool true) ∧ Ext W w') := Lib.hid (fun W => by have := may_any x W; rwa [HG.out] at this)
          clear b0 b1 b2 b3 b4 b5
          refine wp_region_grown (Ext.refl w1) (by kernel_rfl) (by kernel_rfl) ?_
          repeat (go_big_quiet_step (first | (go_at_call 28; exact Gr.of (hmay.out _)) | (go_at_call 29; exact Gr.of (target_any x _))))
          refine wpQuiet_nil ?_
          intro gw
          go_wp2
          go_ret
          exact retB_no rfl (HBAD.out (fun h => by rw [HQ.out] at h; exact Bool.false_ne_true h.2.1.symm)) (Ext.trans HXX.out gw.h)
      | succ j =>
        obtain ⟨y, gy⟩ := get_of l j (by rw [HP.out.1]; omega)
        obtain ⟨b2, off2, hbo, _, y0, y1, y2, y3, y4, y5⟩ := jb_at (HP.out.ext HXX.out) gy
        obtain ⟨rfl, rfl⟩ : b = b2 ∧ off = off2 := by injection hbo with hbo; injection hbo with h1 h2; exact ⟨h1, h2⟩
        have GY := Lib.hid gy
        clear gy hbo
        obtain ⟨ah, hah⟩ : ∃ ah, aheadB y x = ah := ⟨_, rfl⟩
        have HA := Lib.hid hah
        have hge : decide (0 ≤ cmpJ y x) = !ah := by
          rw [Bool.eq_iff_iff, decide_eq_true_iff, cmpJ_ge, hah]; cases ah <;> simp
        clear hah
        have hj0 : (0 : Int) ≤ (j : Int) := by omega
        have hj1 : (j : Int) < (n : Int) := by omega
        have hi1 : (0 : Int) < ((j + 1 : Nat) : Int) := by omega
        have hw1 : IntKind.i64.wrap (((j + 1 : Nat) : Int) - 1) = (j : Int) := by
          rw [show (((j + 1 : Nat) : Int) - 1) = (j : Int) by omega]; exact IntWalk.i64_in _ (by omega)
        have hw2 : IntKind.i64.wrap ((j : Int) + 1 - 1) = (j : Int) := by
          rw [show ((j : Int) + 1 - 1) = (j : Int) by omega]; exact IntWalk.i64_in _ (by omega)
        cases g
        · have d0 : ∀ g : Gr w1, g.w.cell? ⟨wr.heap.size, 0, none⟩ = some (.int .i64 x.i) := fun g => g.cell b0
          have d1 : ∀ g : Gr w1, g.w.cell? ⟨wr.heap.size, 1, none⟩ = some (.int .i64 x.v) := fun g => g.cell b1
          have d2 : ∀ g : Gr w1, g.w.cell? ⟨wr.heap.size, 2, none⟩ = some (.int .i64 x.f) := fun g => g.cell b2
          have d3 : ∀ g : Gr w1, g.w.cell? ⟨wr.heap.size, 3, none⟩ = some (.int .i64 x.t) := fun g => g.cell b3
          have d4 : ∀ g : Gr w1, g.w.cell? ⟨wr.heap.size, 4, none⟩ = some (.int .i64 x.h) := fun g => g.cell b4
          have d5 : ∀ g : Gr w1, g.w.cell? ⟨wr.heap.size, 5, none⟩ = some (.int .i64 x.l) := fun g => g.cell b5
          have f0 : ∀ g : Gr w1, g.w.cell? ⟨b, off + j * 6, none⟩ = some (.int .i64 y.i) := fun g => g.cell y0
          have f1 : ∀ g : Gr w1, g.w.cell? ⟨b, off + j * 6 + 1, none⟩ = some (.int .i64 y.v) := fun g => g.cell y1
          have f2 : ∀ g : Gr w1, g.w.cell? ⟨b, off + j * 6 + 2, none⟩ = some (.int .i64 y.f) := fun g => g.cell y2
          have f3 : ∀ g : Gr w1, g.w.cell? ⟨b, off + j * 6 + 3, none⟩ = some (.int .i64 y.t) := fun g => g.cell y3
          have f4 : ∀ g : Gr w1, g.w.cell? ⟨b, off + j * 6 + 4, none⟩ = some (.int .i64 y.h) := fun g => g.cell y4
          have f5 : ∀ g : Gr w1, g.w.cell? ⟨b, off + j * 6 + 5, none⟩ = some (.int .i64 y.l) := fun g => g.cell y5
          have hlk : ∀ g : Gr w1, (Instr.lookup 44 (.map (some w.heap.size)) (.agg #[.int .i64 x.i, .int .i64 x.t]) false).run Try.prog g.w = .ok (.bool q) g.w := fun g => by have h1 := (HSE1.out.ext g.h).look HW.out.1 HW.out.2.2.2.1; unfold keyV at h1; have h2 := HQ.out; unfold seenB at h2; rw [h1, h2]
          have hmay : Hid (∀ W, Calls Try.prog 28 #[.agg #[.int .i64 x.i, .int .i64 x.v, .int .i64 x.f, .int .i64 x.t, .int .i64 x.h, .int .i64 x.l]] W fun e w' => e = .returned (.bool false) ∧ Ext W w') := Lib.hid (fun W => by have := may_any x W; rwa [HG.out] at this)
          clear b0 b1 b2 b3 b4 b5 y0 y1 y2 y3 y4 y5
          refine wp_region_grown (Ext.refl w1) (by kernel_rfl) (by kernel_rfl) ?_
          repeat (go_big_quiet_step (first | (go_at_call 28; exact Gr.of (hmay.out _)) | (go_at_call 29; exact Gr.of (target_any x _)) | (go_at_call 30; exact Gr.of (cmpj_e y x _))))
          refine wpQuiet_nil ?_
          intro gw
          go_wp2
          go_ret
          exact retB_no rfl (HBAD.out (fun h => by rw [HG.out] at h; exact Bool.false_ne_true h.1)) (Ext.trans HXX.out gw.h)
        cases q
        · cases ah
          · have d0 : ∀ g : Gr w1, g.w.cell? ⟨wr.heap.size, 0, none⟩ = some (.int .i64 x.i) := fun g => g.cell b0
            have d1 : ∀ g : Gr w1, g.w.cell? ⟨wr.heap.size, 1, none⟩ = some (.int .i64 x.v) := fun g => g.cell b1
            have d2 : ∀ g : Gr w1, g.w.cell? ⟨wr.heap.size, 2, none⟩ = some (.int .i64 x.f) := fun g => g.cell b2
            have d3 : ∀ g : Gr w1, g.w.cell? ⟨wr.heap.size, 3, none⟩ = some (.int .i64 x.t) := fun g => g.cell b3
            have d4 : ∀ g : Gr w1, g.w.cell? ⟨wr.heap.size, 4, none⟩ = some (.int .i64 x.h) := fun g => g.cell b4
            have d5 : ∀ g : Gr w1, g.w.cell? ⟨wr.heap.size, 5, none⟩ = some (.int .i64 x.l) := fun g => g.cell b5
            have f0 : ∀ g : Gr w1, g.w.cell? ⟨b, off + j * 6, none⟩ = some (.int .i64 y.i) := fun g => g.cell y0
            have f1 : ∀ g : Gr w1, g.w.cell? ⟨b, off + j * 6 + 1, none⟩ = some (.int .i64 y.v) := fun g => g.cell y1
            have f2 : ∀ g : Gr w1, g.w.cell? ⟨b, off + j * 6 + 2, none⟩ = some (.int .i64 y.f) := fun g => g.cell y2
            have f3 : ∀ g : Gr w1, g.w.cell? ⟨b, off + j * 6 + 3, none⟩ = some (.int .i64 y.t) := fun g => g.cell y3
            have f4 : ∀ g : Gr w1, g.w.cell? ⟨b, off + j * 6 + 4, none⟩ = some (.int .i64 y.h) := fun g => g.cell y4
            have f5 : ∀ g : Gr w1, g.w.cell? ⟨b, off + j * 6 + 5, none⟩ = some (.int .i64 y.l) := fun g => g.cell y5
            have hlk : ∀ g : Gr w1, (Instr.lookup 44 (.map (some w.heap.size)) (.agg #[.int .i64 x.i, .int .i64 x.t]) false).run Try.prog g.w = .ok (.bool false) g.w := fun g => by have h1 := (HSE1.out.ext g.h).look HW.out.1 HW.out.2.2.2.1; unfold keyV at h1; have h2 := HQ.out; unfold seenB at h2; rw [h1, h2]
            have hmay : Hid (∀ W, Calls Try.prog 28 #[.agg #[.int .i64 x.i, .int .i64 x.v, .int .i64 x.f, .int .i64 x.t, .int .i64 x.h, .int .i64 x.l]] W fun e w' => e = .returned (.bool true) ∧ Ext W w') := Lib.hid (fun W => by have := may_any x W; rwa [HG.out] at this)
            clear b0 b1 b2 b3 b4 b5 y0 y1 y2 y3 y4 y5
            refine wp_region_grown (Ext.refl w1) (by kernel_rfl) (by kernel_rfl) ?_
            repeat (go_big_quiet_step (first | (go_at_call 28; exact Gr.of (hmay.out _)) | (go_at_call 29; exact Gr.of (target_any x _)) | (go_at_call 30; exact Gr.of (cmpj_e y x _))))
            refine wpQuiet_nil ?_
            intro gw
            go_wp2
            go_ret
            exact retB_no rfl (HBAD.out (fun h => by have := h.2.2 j y rfl GY.out; rw [HA.out] at this; exact Bool.false_ne_true this)) (Ext.trans HXX.out gw.h)
          · have d0 : ∀ g : Gr w1, g.w.cell? ⟨wr.heap.size, 0, none⟩ = some (.int .i64 x.i) := fun g => g.cell b0
            have d1 : ∀ g : Gr w1, g.w.cell? ⟨wr.heap.size, 1, none⟩ = some (.int .i64 x.v) := fun g => g.cell b1
            have d2 : ∀ g : Gr w1, g.w.cell? ⟨wr.heap.size, 2, none⟩ = some (.int .i64 x.f) := fun g => g.cell b2
            have d3 : ∀ g : Gr w1, g.w.cell? ⟨wr.heap.size, 3, none⟩ = some (.int .i64 x.t) := fun g => g.cell b3
            have d4 : ∀ g : Gr w1, g.w.cell? ⟨wr.heap.size, 4, none⟩ = some (.int .i64 x.h) := fun g => g.cell b4
            have d5 : ∀ g : Gr w1, g.w.cell? ⟨wr.heap.size, 5, none⟩ = some (.int .i64 x.l) := fun g => g.cell b5
            have f0 : ∀ g : Gr w1, g.w.cell? ⟨b, off + j * 6, none⟩ = some (.int .i64 y.i) := fun g => g.cell y0
            have f1 : ∀ g : Gr w1, g.w.cell? ⟨b, off + j * 6 + 1, none⟩ = some (.int .i64 y.v) := fun g => g.cell y1
            have f2 : ∀ g : Gr w1, g.w.cell? ⟨b, off + j * 6 + 2, none⟩ = some (.int .i64 y.f) := fun g => g.cell y2
            have f3 : ∀ g : Gr w1, g.w.cell? ⟨b, off + j * 6 + 3, none⟩ = some (.int .i64 y.t) := fun g => g.cell y3
            have f4 : ∀ g : Gr w1, g.w.cell? ⟨b, off + j * 6 + 4, none⟩ = some (.int .i64 y.h) := fun g => g.cell y4
            have f5 : ∀ g : Gr w1, g.w.cell? ⟨b, off + j * 6 + 5, none⟩ = some (.int .i64 y.l) := fun g => g.cell y5
            have hlk : ∀ g : Gr w1, (Instr.lookup 44 (.map (some w.heap.size)) (.agg #[.int .i64 x.i, .int .i64 x.t]) false).run Try.prog g.w = .ok (.bool false) g.w := fun g => by have h1 := (HSE1.out.ext g.h).look HW.out.1 HW.out.2.2.2.1; unfold keyV at h1; have h2 := HQ.out; unfold seenB at h2; rw [h1, h2]
            have hmay : Hid (∀ W, Calls Try.prog 28 #[.agg #[.int .i64 x.i, .int .i64 x.v, .int .i64 x.f, .int .i64 x.t, .int .i64 x.h, .int .i64 x.l]] W fun e w' => e = .returned (.bool true) ∧ Ext W w') := Lib.hid (fun W => by have := may_any x W; rwa [HG.out] at this)
            clear b0 b1 b2 b3 b4 b5 y0 y1 y2 y3 y4 y5
            refine wp_region_grown (Ext.refl w1) (by kernel_rfl) (by kernel_rfl) ?_
            repeat (go_big_quiet_step (first | (go_at_call 28; exact Gr.of (hmay.out _)) | (go_at_call 29; exact Gr.of (target_any x _)) | (go_at_call 30; exact Gr.of (cmpj_e y x _))))
            refine wpQuiet_nil ?_
            intro gw
            have HGD := Lib.hid (HGOOD.out ⟨HG.out, HQ.out, fun j' y' h h' => by (obtain rfl : j' = j := by omega); rw [GY.out] at h'; injection h' with h'; subst h'; exact HA.out⟩)
            have HSE2 := Lib.hid (HSE1.out.ext gw.h)
            have HX2 := Lib.hid (Ext.trans HXX.out gw.h)
            go_wp2_with fail
            refine (target_any x _).mono ?_
            rintro e w2 ⟨rfl, hx2⟩
            have HSE3 := Lib.hid (HSE2.out.ext hx2)
            have HX3 := Lib.hid (Ext.trans HX2.out hx2)
            clear hx2
            go_wp2_with (at_mapUpdate; refine wpList_mark rfl (.tmp 37) (.tmp 39) _ rfl w.heap.size (j + 1) (l.take (j + 1)) rfl HSE3.out (by unfold maxLen; omega) x HW.out rfl rfl ?_; intro w4 hse hgr; (have HSE4 := Lib.hid hse); (have HX4 := Lib.hid (Lay.grown_old HX3.out (fun k hk => by injection hk with hk; subst hk; exact Nat.le_refl _) hgr)); clear hse hgr)
            go_roundw
            case rel => exact ⟨(j + 1) + 1, by go_num, by omega, HGD, by rw [HTK.out]; exact HSE4.out, HX4.out⟩
            case measure => simp [intOf]; omega
        · have d0 : ∀ g : Gr w1, g.w.cell? ⟨wr.heap.size, 0, none⟩ = some (.int .i64 x.i) := fun g => g.cell b0
          have d1 : ∀ g : Gr w1, g.w.cell? ⟨wr.heap.size, 1, none⟩ = some (.int .i64 x.v) := fun g => g.cell b1
          have d2 : ∀ g : Gr w1, g.w.cell? ⟨wr.heap.size, 2, none⟩ = some (.int .i64 x.f) := fun g => g.cell b2
          have d3 : ∀ g : Gr w1, g.w.cell? ⟨wr.heap.size, 3, none⟩ = some (.int .i64 x.t) := fun g => g.cell b3
          have d4 : ∀ g : Gr w1, g.w.cell? ⟨wr.heap.size, 4, none⟩ = some (.int .i64 x.h) := fun g => g.cell b4
          have d5 : ∀ g : Gr w1, g.w.cell? ⟨wr.heap.size, 5, none⟩ = some (.int .i64 x.l) := fun g => g.cell b5
          have f0 : ∀ g : Gr w1, g.w.cell? ⟨b, off + j * 6, none⟩ = some (.int .i64 y.i) := fun g => g.cell y0
          have f1 : ∀ g : Gr w1, g.w.cell? ⟨b, off + j * 6 + 1, none⟩ = some (.int .i64 y.v) := fun g => g.cell y1
          have f2 : ∀ g : Gr w1, g.w.cell? ⟨b, off + j * 6 + 2, none⟩ = some (.int .i64 y.f) := fun g => g.cell y2
          have f3 : ∀ g : Gr w1, g.w.cell? ⟨b, off + j * 6 + 3, none⟩ = some (.int .i64 y.t) := fun g => g.cell y3
          have f4 : ∀ g : Gr w1, g.w.cell? ⟨b, off + j * 6 + 4, none⟩ = some (.int .i64 y.h) := fun g => g.cell y4
          have f5 : ∀ g : Gr w1, g.w.cell? ⟨b, off + j * 6 + 5, none⟩ = some (.int .i64 y.l) := fun g => g.cell y5
          have hlk : ∀ g : Gr w1, (Instr.lookup 44 (.map (some w.heap.size)) (.agg #[.int .i64 x.i, .int .i64 x.t]) false).run Try.prog g.w = .ok (.bool true) g.w := fun g => by have h1 := (HSE1.out.ext g.h).look HW.out.1 HW.out.2.2.2.1; unfold keyV at h1; have h2 := HQ.out; unfold seenB at h2; rw [h1, h2]
          have hmay : Hid (∀ W, Calls Try.prog 28 #[.agg #[.int .i64 x.i, .int .i64 x.v, .int .i64 x.f, .int .i64 x.t, .int .i64 x.h, .int .i64 x.l]] W fun e w' => e = .returned (.bool true) ∧ Ext W w') := Lib.hid (fun W => by have := may_any x W; rwa [HG.out] at this)
          clear b0 b1 b2 b3 b4 b5 y0 y1 y2 y3 y4 y5
          refine wp_region_grown (Ext.refl w1) (by kernel_rfl) (by kernel_rfl) ?_
          repeat (go_big_quiet_step (first | (go_at_call 28; exact Gr.of (hmay.out _)) | (go_at_call 29; exact Gr.of (target_any x _)) | (go_at_call 30; exact Gr.of (cmpj_e y x _))))
          refine wpQuiet_nil ?_
          intro gw
          go_wp2
          go_ret
          exact retB_no rfl (HBAD.out (fun h => by rw [HQ.out] at h; exact Bool.false_ne_true h.2.1.symm)) (Ext.trans HXX.out gw.h)
    · obtain rfl : k = n := by omega
      go_wp2
      go_ret
      exact retB_yes rfl (fun i x hx => HR.out i x (by have := (List.getElem?_eq_some_iff.1 hx).1; have := HP.out.1; omega) hx) HX.out
end Go.Proofs.Ytlbpgaoindkgbaa.Me
