/- Written bytes: the code's Put. -/
import Derived.Test.YtcajmgdenhegjaaWrW
import Derived.Test.YtcajmgdenhegjaaWrXa
import Derived.Deep.RegionHeld3
namespace Go.Proofs.Ytcajmgdenhegjaa.Wr
open Go.RowKit Go.Proofs.Ytcajmgdenhegjaa Go.Shelf
set_option linter.unusedVariables false
attribute [local go_sem] Oper.semAt_some

/-- what Put tells -/
def RetPut (w' : World) (l : List Pc) (y : Pc) (e : Ending) : Prop := ∃ v l', e = .returned v ∧ LPc.Sl w' v l' ∧ PutS l y l'
set_option maxRecDepth 100000 in
set_option maxHeartbeats 40000000 in
theorem put_v (p : Option Addr) (n c : Nat) (l : List Pc) (m f : Int) (u : Value) (data : List Int) (w : World) (hl : LPc.Sl w (.slice p n c) l) (hr : AllR l) (hb : n ≤ 1000) (hd : (Lay.int .u8).Sl w u data) (hdl : data.length ≤ 100000) (hm : (Lit.int .i64 m).wf = true) (hf : (Lit.int .i64 f).wf = true) :
    Calls Try.prog 15 #[.slice p n c, .int .i64 m, .int .i64 f, u] w fun e w' => RetPut w' l ⟨m, f, data⟩ e ∧ Ext w w' := by
  obtain ⟨W0, hW0⟩ : ∃ W0, (((w.alloc (.cells #[.int .i64 m] 3)).alloc (.cells #[.int .i64 f] 3)).alloc (.cells #[.slice none 0 0] 22)) = W0 := ⟨_, rfl⟩
  have hx0 : Ext w W0 := by rw [← hW0]; exact Ext.trans (Ext.alloc _ _) (Ext.trans (Ext.alloc _ _) (Ext.alloc _ _))
  have hsz0 : W0.heap.size = w.heap.size + 1 + 1 + 1 := by rw [← hW0]; simp
  have a5 : W0.cell? ⟨w.heap.size, 0, none⟩ = some (.int .i64 m) := by
    rw [← hW0]; exact (Ext.trans (Ext.alloc _ _) (Ext.alloc _ _)).cell (by rw [cell_of_row _ _ _ _ _ _ (heap_alloc_new w _)]; rfl)
  have a6 : W0.cell? ⟨w.heap.size + 1, 0, none⟩ = some (.int .i64 f) := by
    have h := heap_alloc_new (w.alloc (.cells #[.int .i64 m] 3)) (.cells #[.int .i64 f] 3)
    simp only [World.size_alloc] at h
    rw [← hW0]; exact (Ext.alloc _ _).cell (by rw [cell_of_row _ _ _ _ _ _ h]; rfl)
  have h8 : W0.heap[w.heap.size + 1 + 1]? = some (.cells #[.slice none 0 0] 22 (0, 0)) := by
    have h := heap_alloc_new ((w.alloc (.cells #[.int .i64 m] 3)).alloc (.cells #[.int .i64 f] 3)) (.cells #[.slice none 0 0] 22)
    simp only [World.size_alloc] at h
    rw [← hW0]; exact h
  have HSS : Hid (∀ w', Ext W0 w' → w'.cell? ⟨w.heap.size, 0, none⟩ = some (.int .i64 m) ∧ w'.cell? ⟨w.heap.size + 1, 0, none⟩ = some (.int .i64 f)) := Lib.hid fun w' h => ⟨h.cell a5, h.cell a6⟩
  have HCL : Hid (∀ W1, Ext W0 W1 → Calls Try.prog 33 #[u] W1 fun e w' => (∃ p8 n8 c8, e = .returned (.slice p8 n8 c8) ∧ (Lay.int .u8).Own w' W1.heap.size 5 (.slice p8 n8 c8) data) ∧ Ext W1 w') := Lib.hid fun W1 hW1 =>
    (clone_v u data W1 (hd.ext (Ext.trans hx0 hW1)) hdl).mono fun e w' ⟨⟨v, h1, h2⟩, h3⟩ => by
      obtain ⟨p8, n8, c8, rfl⟩ := own_form h2
      exact ⟨⟨p8, n8, c8, h1, h2⟩, h3⟩
  have H8 := Lib.hid h8
  have HX0 := Lib.hid hx0
  have HSZ0 := Lib.hid hsz0
  have HL := Lib.hid hl
  have HR := Lib.hid hr
  have HM := Lib.hid hm
  have HF := Lib.hid hf
  refine (callsIn_wide (n := 9)).1 ?_
  refine callsIn_of_wp_marks Try.func15 rfl trivial ?_ rfl
  simp only [Try.ntmps15, List.size_toArray, List.length_cons, List.length_nil, Nat.reduceAdd, Nat.reduceSub, Array.replicate_succ, Array.replicate_zero, List.push_toArray, List.append_toArray, List.nil_append, List.cons_append]
  refine (wpIn_wide (n := 9)).2 ?_
  clear hl hr hd hdl hm hf h8 hx0 hsz0
  go_wp2
  clear hW0
  have hxx : Ext W0 W0.drew := Ext.drew (Ext.refl _)
  have hxz : Ext W0 (W0.alloc (.cells #[.int .i64 0, .int .i64 0, .slice none 0 0] 30)).drew := Ext.drew (Ext.alloc _ _)
  go_region_held3 (fun w' => w'.cell? ⟨w.heap.size, 0, none⟩ = some (.int .i64 m) ∧ w'.cell? ⟨w.heap.size + 1, 0, none⟩ = some (.int .i64 f)) ((refine HSS.out _ ?_; first | (with_reducible exact hxx) | (with_reducible exact hxz) | (with_reducible exact Ext.trans hxx (Ext.alloc _ _)) | (exact Below.setCell (Below.setCell (Below.setCell hxx (p := ⟨W0.heap.size, 0, none⟩) (Nat.le_refl _) _) (p := ⟨W0.heap.size, 1, none⟩) (Nat.le_refl _) _) (p := ⟨W0.heap.size, 2, none⟩) (Nat.le_refl _) _))) (first | (go_at_call 33; refine (HCL.out _ (by with_reducible exact hxx)).mono ?_; rintro e w2 ⟨⟨p8, n8, c8, rfl, hv⟩, hx2⟩; have HFIN : ∃ U bd, (w2.alloc (.cells #[.int .i64 m, .int .i64 f, .slice p8 n8 c8] 30)) = U ∧ w2.heap.size = bd ∧ Ext W0 U ∧ Hid (U.heap[bd]? = some (.cells #[.int .i64 m, .int .i64 f, .slice p8 n8 c8] 30 (0, 0))) ∧ Hid ((Lay.int .u8).Own U W0.heap.size 5 (.slice p8 n8 c8) data) ∧ W0.heap.size ≤ bd := ⟨_, _, rfl, rfl, Ext.trans (Ext.trans hxx hx2) (Ext.alloc _ _), Lib.hid (heap_alloc_new _ _), Lib.hid ((hv.base hxx.size).ext (Ext.alloc _ _)), (Ext.trans hxx hx2).size⟩; replace hxx := Ext.trans hxx hx2; clear hv hx2) | (go_at_call 33; refine (HCL.out _ (by with_reducible exact hxz)).mono ?_; rintro e w2 ⟨⟨p8, n8, c8, rfl, hv⟩, hx2⟩; have hb8 := heap_ext (heap_alloc_new W0 (.cells #[.int .i64 0, .int .i64 0, .slice none 0 0] 30)) (Ext.trans (Ext.drew (Ext.refl _)) hx2); have z0 : w2.cell? ⟨W0.heap.size, 0, none⟩ = some (.int .i64 0) := cell_of_row _ _ 0 _ _ _ hb8; have z1 : w2.cell? ⟨W0.heap.size, 1, none⟩ = some (.int .i64 0) := cell_of_row _ _ 1 _ _ _ hb8; have z2 : w2.cell? ⟨W0.heap.size, 2, none⟩ = some (.slice none 0 0) := cell_of_row _ _ 2 _ _ _ hb8; have q0 : w2.frozen? ⟨W0.heap.size, 0, none⟩ = false := frozen_of_row w2 _ 0 _ _ hb8; have q1 : w2.frozen? ⟨W0.heap.size, 1, none⟩ = false := frozen_of_row w2 _ 1 _ _ hb8; have q2 : w2.frozen? ⟨W0.heap.size, 2, none⟩ = false := frozen_of_row w2 _ 2 _ _ hb8; have HFIN : ∃ U bd, (((w2.setCell ⟨W0.heap.size, 0, none⟩ (.int .i64 m)).setCell ⟨W0.heap.size, 1, none⟩ (.int .i64 f)).setCell ⟨W0.heap.size, 2, none⟩ (.slice p8 n8 c8)) = U ∧ W0.heap.size = bd ∧ Ext W0 U ∧ Hid (U.heap[bd]? = some (.cells #[.int .i64 m, .int .i64 f, .slice p8 n8 c8] 30 (0, 0))) ∧ Hid ((Lay.int .u8).Own U W0.heap.size 5 (.slice p8 n8 c8) data) ∧ W0.heap.size ≤ bd := ⟨_, _, rfl, rfl, Below.setCell (Below.setCell (Below.setCell (Ext.trans hxz hx2) (p := ⟨W0.heap.size, 0, none⟩) (Nat.le_refl _) _) (p := ⟨W0.heap.size, 1, none⟩) (Nat.le_refl _) _) (p := ⟨W0.heap.size, 2, none⟩) (Nat.le_refl _) _, Lib.hid (set3 hb8).1, Lib.hid (Lay.Own.kept plain_u8 (hv.base hxz.size) (set3 hb8).2 (fun e => by have h7 := (hv.lt _ e).1; have h9 : W0.heap.size + 1 ≤ (W0.alloc (.cells #[.int .i64 0, .int .i64 0, .slice none 0 0] 30)).drew.heap.size := (by show _ ≤ (W0.alloc _).heap.size; simp); omega)), Nat.le_refl _⟩; replace hxx := Ext.trans hxz hx2; clear hv hx2 hb8))
  all_goals
    clear hxx hxz a5 a6
    obtain ⟨U, bd, hU, hbd, hxU, HBD, HDT, hbl⟩ := HFIN
    rw [hU, hbd]
    clear hU hbd
  all_goals
    have HXU := Lib.hid hxU
    have HXW := Lib.hid (Ext.trans HX0.out hxU)
    have d0 : U.cell? ⟨bd, 0, none⟩ = some (.int .i64 m) := cell_of_row _ _ 0 _ _ _ HBD.out
    have d1 : U.cell? ⟨bd, 1, none⟩ = some (.int .i64 f) := cell_of_row _ _ 1 _ _ _ HBD.out
    have d2 : U.cell? ⟨bd, 2, none⟩ = some (.slice p8 n8 c8) := cell_of_row _ _ 2 _ _ _ HBD.out
    have htr : TriC U [.int .i64 m, .int .i64 f, .slice p8 n8 c8] m f data p8 n8 c8 := tri_mk HDT.out.sl HM.out HF.out
    have HTR := Lib.hid htr
    have hmay := may_any ⟨m, f, data⟩ p8 n8 c8 U htr
    simp only at hmay
    by_cases hri : rightB ⟨m, f, data⟩ = true
    · have HRI := Lib.hid ((rightB_iff _).1 hri)
      rw [hri] at hmay
      have HMAY := Lib.hid hmay
      clear hmay hri htr
      go_wp2_with fail
      refine HMAY.out.mono ?_
      rintro e w3 ⟨rfl, hx3⟩
      have HX3 := Lib.hid hx3
      have HCP := Lib.hid (cloneP2_v p n c l w w3 HL.out (Ext.trans HXW.out hx3) (by have := (sl_parts HL.out).1.1; omega))
      clear hx3 d0 d1 d2
      go_wp2_with fail
      refine HCP.out.mono ?_
      rintro e w4 ⟨⟨v4, vs, rfl, ho4, hvs4⟩, hx4⟩
      obtain ⟨po, no, co, rfl⟩ : ∃ po no co, v4 = .slice po no co := by
        rcases ho4.2 with ⟨rfl, _⟩ | ⟨g, cap, cur, rfl, _⟩
        · exact ⟨_, _, _, rfl⟩
        · exact ⟨_, _, _, rfl⟩
      have HO4 := Lib.hid ho4
      have HVS := Lib.hid hvs4
      have HX4 := Lib.hid hx4
      clear ho4 hx4 hvs4
      go_wp2_with fail
      refine (backward_v p n c _).mono ?_
      rintro e w5 ⟨rfl, hw5⟩
      have hx45 : Ext w4 w5 := by rw [hw5]; exact Ext.trans (Ext.alloc _ _) (Ext.alloc _ _)
      have hs5 : w5.heap.size = w4.heap.size + 1 + 1 := by rw [hw5]; simp
      have h10 : w5.heap[w4.heap.size]? = some (.cells #[.slice po no co] 22 (0, 0)) := by rw [hw5]; exact heap_ext (heap_alloc_new w4 _) (Ext.alloc _ _)
      have hbk5 : w5.cell? ⟨w4.heap.size + 1, 0, none⟩ = some (.slice p n c) := by
        have h := heap_alloc_new (w4.alloc (.cells #[.slice po no co] 22)) (.cells #[.slice p n c] 22)
        simp only [World.size_alloc] at h
        rw [hw5, cell_of_row _ _ _ _ _ _ h]; rfl
      have HX5 := Lib.hid (Ext.trans (Ext.trans HXU.out HX3.out) (Ext.trans HX4.out hx45))
      have HXW5 := Lib.hid (Ext.trans HX0.out HX5.out)
      have HX5u := Lib.hid (Ext.trans HX3.out (Ext.trans HX4.out hx45))
      have HNB := Lib.hid hb
      obtain ⟨i0, hi0, hzi0, hzi1, hzi2⟩ := info_parts info_pc
      have HX45 := Lib.hid hx45
      have HS5 := Lib.hid hs5
      have H10 := Lib.hid h10
      have HBK5 := Lib.hid hbk5
      obtain ⟨bk, hbk⟩ := back_ex (w0 := w) (sl_parts HL.out).1
      have HBK := Lib.hid hbk
      have hln : l.length = n := (sl_parts HL.out).1.1
      have HLN := Lib.hid hln
      clear hw5 hx45 hs5 h10 hbk5 hbk hln
      go_wp2
      refine (wpIn_wide (n := 9)).1 ?_
      refine wpIn_rangeFunc_ownH rfl (by omega) (gf := 44) (lb := #[.pointer (some ⟨w4.heap.size + 1, 0, none⟩)]) rfl trivial (enters_of Try.func44 (by kernel_rfl) rfl)
        (back_stops w p n c l bk HLN.out hb HBK.out (9 - 1) (w4.heap.size + 1) w5 HXW5.out (by have := (Ext.trans HXW.out (Ext.trans HX3.out HX4.out)).size; omega) (by have := HS5.out; omega) HBK5.out)
        belowK_t (belowK_b (by have := HS5.out; omega)) (Below.refl _ _) (fun _ => rfl)
        (LoopI w5 m) (LoopX w5 ⟨m, f, data⟩ (.slice po no co) n vs w3.heap.size (w.heap.size + 1 + 1))
        (loopI_from w5 m (Nat.le_refl _)) (fun cd => loopX_from w5 ⟨m, f, data⟩ (.slice po no co) n vs w3.heap.size (w.heap.size + 1 + 1) cd (Nat.le_refl _) HXW5.out) ⟨by simp, Ext.refl _⟩
        (fun y a' W => ∃ Bx, W.heap[Bx]? = some (.cells #[.int .i64 y.x.i, .int .i64 y.x.f, .slice y.p y.n y.c] 30 (0, 0)) ∧ w5.heap.size ≤ Bx ∧ a' = { tmps := #[.slice p n c, .int .i64 m, .int .i64 f, u, undef, .pointer (some ⟨w.heap.size, 0, none⟩), .pointer (some ⟨w.heap.size + 1, 0, none⟩), undef, .pointer (some ⟨w.heap.size + 1 + 1, 0, none⟩), .pointer (some ⟨bd, 0, none⟩), .pointer (some ⟨w4.heap.size, 0, none⟩), .int .i64 (y.k : Int), .pointer (some ⟨Bx, 0, none⟩), .int .i64 m, .int .i64 f, u, .slice p8 n8 c8, .agg #[.int .i64 m, .int .i64 f, .slice p8 n8 c8], .agg #[.int .i64 m, .int .i64 f, .slice p8 n8 c8], .bool true, .bool false, undef, .slice p n c, .slice po no co, .slice p n c, .func (.func 44) #[] #[.pointer (some ⟨w4.heap.size + 1, 0, none⟩)], .int .i64 (y.k : Int), .agg #[.int .i64 y.x.i, .int .i64 y.x.f, .slice y.p y.n y.c], undef, undef, undef, undef, undef, undef, undef, undef, undef, undef, undef, undef, undef, undef, undef, undef, undef, undef, undef, undef, undef, undef, undef, undef, undef, undef], defers := [] })
        ?hAx ?assign ?body ?done ?stop
      case hAx =>
        rintro y a' s W W' row ⟨Bx, h1, h2⟩ hg hr
        exact ⟨Bx, box_from (w5 := w5) s W W' row ⟨h1, h2⟩ hg hr⟩
      case assign =>
        intro l1 pre y W K hi hK
        unfold encB
        gi_wp2
        refine hK _ _ ((KeepsOthers.alloc _ _).from _) ((Below.refl _ W).alloc ?_ _) ⟨hi.1, Ext.trans hi.2 (Ext.alloc _ _)⟩ ⟨W.heap.size, heap_alloc_new W _, hi.2.size, rfl⟩
        have h1 := hi.2.size
        have h2 := HS5.out
        omega
      case body =>
        rintro l1 pre y a' W hl1 hlp hi ⟨Bx, hBx, hBw, rfl⟩ hlt
        have hx5 := hi.2
        have HPRE := Lib.hid hi.1
        obtain ⟨e5, e6⟩ := HSS.out W (Ext.trans HX5.out hx5)
        have b0 : W.cell? ⟨Bx, 0, none⟩ = some (.int .i64 y.x.i) := cell_of_row _ _ 0 _ _ _ hBx
        have b1 : W.cell? ⟨Bx, 1, none⟩ = some (.int .i64 y.x.f) := cell_of_row _ _ 1 _ _ _ hBx
        have b2 : W.cell? ⟨Bx, 2, none⟩ = some (.slice y.p y.n y.c) := cell_of_row _ _ 2 _ _ _ hBx
        have HB := Lib.hid hBx
        have HX := Lib.hid hx5
        have HOF := Lib.hid (of_any m y.x y.p y.n y.c W)
        clear hi hlp hlt
        by_cases hyi : y.x.i = m
        · have hb1 : (y.x.i == m) = true := by simp [hyi]
          rw [hb1] at HOF
          have HYI := Lib.hid hyi
          clear hb1 hyi
          gi_wp2_with fail
          refine ⟨trivial, (calls_round HOF.out).mono ?_⟩
          rintro e w2 ⟨rfl, hx2⟩
          have HX2 := Lib.hid hx2
          have hx52 := Ext.trans HX.out hx2
          have HX52 := Lib.hid hx52
          have hbd2 := heap_ext (heap_ext HBD.out HX5u.out) hx52
          have k0 : ∀ g : Gr w2, g.w.cell? ⟨Bx, 0, none⟩ = some (.int .i64 y.x.i) := fun g => g.cell (hx2.cell b0)
          have k1 : ∀ g : Gr w2, g.w.cell? ⟨Bx, 1, none⟩ = some (.int .i64 y.x.f) := fun g => g.cell (hx2.cell b1)
          have k2 : ∀ g : Gr w2, g.w.cell? ⟨Bx, 2, none⟩ = some (.slice y.p y.n y.c) := fun g => g.cell (hx2.cell b2)
          have k6 : ∀ g : Gr w2, g.w.cell? ⟨w.heap.size + 1, 0, none⟩ = some (.int .i64 f) := fun g => g.cell (hx2.cell e6)
          have l0 : ∀ g : Gr w2, g.w.cell? ⟨bd, 0, none⟩ = some (.int .i64 m) := fun g => g.cell (cell_of_row _ _ 0 _ _ _ hbd2)
          have l1' : ∀ g : Gr w2, g.w.cell? ⟨bd, 1, none⟩ = some (.int .i64 f) := fun g => g.cell (cell_of_row _ _ 1 _ _ _ hbd2)
          have l2 : ∀ g : Gr w2, g.w.cell? ⟨bd, 2, none⟩ = some (.slice p8 n8 c8) := fun g => g.cell (cell_of_row _ _ 2 _ _ _ hbd2)
          have hyr := HR.out y.x (List.mem_of_getElem? y.at_)
          have HYR := Lib.hid hyr
          obtain ⟨E1, hE1⟩ : ∃ E1, y.x.e = E1 := ⟨_, rfl⟩
          obtain ⟨E2, hE2⟩ : ∃ E2, (⟨m, f, data⟩ : Pc).e = E2 := ⟨_, rfl⟩
          have HE1 : Hid (∀ g : Gr w2, Calls Try.prog 38 #[.agg #[.int .i64 y.x.i, .int .i64 y.x.f, .slice y.p y.n y.c]] g.w fun e w' => e = .returned (.int .i64 E1) ∧ Ext g.w w') := Lib.hid fun g => by
            have h := end_any y.x y.p y.n y.c g.w (TriC.ext y.tri (Ext.trans HXW5.out (Ext.trans hx52 g.h))) (by have := hyr.2.1; omega) (by have := hyr.2.2.2; omega)
            rw [hE1] at h; exact h
          have HE2 : Hid (∀ g : Gr w2, Calls Try.prog 38 #[.agg #[.int .i64 m, .int .i64 f, .slice p8 n8 c8]] g.w fun e w' => e = .returned (.int .i64 E2) ∧ Ext g.w w') := Lib.hid fun g => by
            have h := end_any ⟨m, f, data⟩ p8 n8 c8 g.w (TriC.ext HTR.out (Ext.trans HX5u.out (Ext.trans hx52 g.h))) (by have := HRI.out.2.1; simp only at this ⊢; omega) (by have := HRI.out.2.2.2; omega)
            rw [hE2] at h; exact h
          have HM1 : Hid (Meet y.x ⟨m, f, data⟩ ↔ ¬ E1 < f ∧ ¬ E2 < y.x.f) := Lib.hid (by unfold Meet; rw [hE1, hE2]; simp only; omega)
          have HM1' := Lib.hid hE1
          have HM2' := Lib.hid hE2
          clear hE1 hE2 hyr hbd2 hx52 hx2 b0 b1 b2 e5 e6 hx5
          by_cases h1 : E1 < f
          · have H1 := Lib.hid h1
            have h1d : decide (E1 < f) = true := decide_eq_true h1
            gi_wp2
            refine region_round_grown (Ext.refl w2) (by kernel_rfl) (by kernel_rfl) (fun _ _ h => h) (by kernel_rfl) ?_
            repeat (go_big_quiet_step (first | (go_at_call 38; with_reducible exact Gr.of (HE1.out _)) | (go_at_call 38; with_reducible exact Gr.of (HE2.out _))))
            refine wpQuiet_nil ?_
            intro gw
            have HXG := Lib.hid gw.h
            gi_wp2
            exact ⟨ext_keeps (Ext.trans HX2.out HXG.out), pre, y, rfl, HPRE.out, HYI.out, .inl ⟨rfl, fun hm => (by have h7 := (HM1.out.1 hm).1; have h8 := H1.out; omega), Ext.trans HX52.out HXG.out⟩⟩
          · have H1 := Lib.hid h1
            have h1d : decide (E1 < f) = false := decide_eq_false h1
            by_cases h2 : E2 < y.x.f
            · have H2 := Lib.hid h2
              have h2d : decide (E2 < y.x.f) = true := decide_eq_true h2
              gi_wp2
              refine region_round_grown (Ext.refl w2) (by kernel_rfl) (by kernel_rfl) (fun _ _ h => h) (by kernel_rfl) ?_
              repeat (go_big_quiet_step (first | (go_at_call 38; with_reducible exact Gr.of (HE1.out _)) | (go_at_call 38; with_reducible exact Gr.of (HE2.out _))))
              refine wpQuiet_nil ?_
              intro gw
              have HXG := Lib.hid gw.h
              gi_wp2
              exact ⟨ext_keeps (Ext.trans HX2.out HXG.out), pre, y, rfl, HPRE.out, HYI.out, .inl ⟨rfl, fun hm => (by have h7 := (HM1.out.1 hm).2; have h8 := H2.out; omega), Ext.trans HX52.out HXG.out⟩⟩
            · have HME : Hid (Meet y.x ⟨m, f, data⟩) := Lib.hid (HM1.out.2 ⟨h1, h2⟩)
              have h2d : decide (E2 < y.x.f) = false := decide_eq_false h2
              gi_wp2
              refine region_round_grown (Ext.refl w2) (by kernel_rfl) (by kernel_rfl) (fun _ _ h => h) (by kernel_rfl) ?_
              repeat (go_big_quiet_step (first | (go_at_call 38; with_reducible exact Gr.of (HE1.out _)) | (go_at_call 38; with_reducible exact Gr.of (HE2.out _))))
              refine wpQuiet_nil ?_
              intro gw
              have HXG := Lib.hid gw.h
              have hkl : y.k < n := by rw [← HLN.out]; exact (List.getElem?_eq_some_iff.1 y.at_).1
              obtain ⟨g, hpo, hno⟩ : ∃ g, po = some ⟨g, 0, none⟩ ∧ no = n := by
                rcases HO4.out.2 with ⟨e, h0⟩ | ⟨g, cap, cur, e, _⟩
                · omega
                · injection e with e1 e2 e3; exact ⟨g, e1, e2⟩
              subst hpo
              subst hno
              have hkl0 : (0 : Int) ≤ (y.k : Int) := by omega
              have hkl1 : (y.k : Int) < (no : Int) := by omega
              obtain ⟨hgl, hgu⟩ := HO4.out.lt g rfl
              have c10 : gw.w.cell? ⟨w4.heap.size, 0, none⟩ = some (.slice (some ⟨g, 0, none⟩) no co) := (Ext.trans HX52.out HXG.out).cell (by rw [cell_of_row _ _ _ _ _ _ H10.out]; rfl)
              have HS9 : Hid (∀ w', Ext gw.w w' → (fun w' : World => w'.cell? ⟨w4.heap.size, 0, none⟩ = some (.slice (some ⟨g, 0, none⟩) no co) ∧ (w'.cell? ⟨Bx, 0, none⟩ = some (.int .i64 y.x.i) ∧ w'.cell? ⟨Bx, 1, none⟩ = some (.int .i64 y.x.f) ∧ w'.cell? ⟨Bx, 2, none⟩ = some (.slice y.p y.n y.c)) ∧ (w'.cell? ⟨bd, 0, none⟩ = some (.int .i64 m) ∧ w'.cell? ⟨bd, 1, none⟩ = some (.int .i64 f) ∧ w'.cell? ⟨bd, 2, none⟩ = some (.slice p8 n8 c8))) w') := Lib.hid fun w' h => ⟨h.cell c10, ⟨h.cell (k0 gw), h.cell (k1 gw), h.cell (k2 gw)⟩, h.cell (l0 gw), h.cell (l1' gw), h.cell (l2 gw)⟩
              clear k0 k1 k2 k6 l0 l1' l2 c10
              gi_wp2
              refine region_round_held (fun w' : World => w'.cell? ⟨w4.heap.size, 0, none⟩ = some (.slice (some ⟨g, 0, none⟩) no co) ∧ (w'.cell? ⟨Bx, 0, none⟩ = some (.int .i64 y.x.i) ∧ w'.cell? ⟨Bx, 1, none⟩ = some (.int .i64 y.x.f) ∧ w'.cell? ⟨Bx, 2, none⟩ = some (.slice y.p y.n y.c)) ∧ (w'.cell? ⟨bd, 0, none⟩ = some (.int .i64 m) ∧ w'.cell? ⟨bd, 1, none⟩ = some (.int .i64 f) ∧ w'.cell? ⟨bd, 2, none⟩ = some (.slice p8 n8 c8))) (by kernel_rfl) (by kernel_rfl) (fun _ _ h => h) ?_
              refine wpAnyH_take (i := 0) (v := .slice (some ⟨g, 0, none⟩) no co) rfl (by kernel_rfl) (by kernel_rfl) (by kernel_rfl) (fun _ _ _ h => h) (Or.inl ⟨by rfl, ?_⟩) (HS9.out _ (Ext.drew (Ext.refl _))) ?_
              · rintro w' ⟨q1, ⟨q2, q3, q4⟩, q5, q6, q7⟩
                go_simp
              try simp only [Act.put, List.setIfInBounds_toArray]
              refine wpAnyH_take (i := 1) (v := .int .i64 (y.k : Int)) rfl (by kernel_rfl) (by kernel_rfl) (by kernel_rfl) (fun _ _ _ h => h) (Or.inl ⟨by rfl, ?_⟩) (HS9.out _ (Ext.drew (Ext.refl _))) ?_
              · rintro w' ⟨q1, ⟨q2, q3, q4⟩, q5, q6, q7⟩
                go_simp
              try simp only [Act.put]
              refine wpAnyH_take (i := 2) (v := .agg #[.int .i64 y.x.i, .int .i64 y.x.f, .slice y.p y.n y.c]) rfl (by kernel_rfl) (by kernel_rfl) (by kernel_rfl) (fun _ _ _ h => h) (Or.inl ⟨by rfl, ?_⟩) (HS9.out _ (Ext.drew (Ext.refl _))) ?_
              · rintro w' ⟨q1, ⟨q2, q3, q4⟩, q5, q6, q7⟩
                go_simp
              try simp only [Act.put]
              refine wpAnyH_take (i := 3) (v := .agg #[.int .i64 m, .int .i64 f, .slice p8 n8 c8]) rfl (by kernel_rfl) (by kernel_rfl) (by kernel_rfl) (fun _ _ _ h => h) (Or.inl ⟨by rfl, ?_⟩) (HS9.out _ (Ext.drew (Ext.refl _))) ?_
              · rintro w' ⟨q1, ⟨q2, q3, q4⟩, q5, q6, q7⟩
                go_simp
              try simp only [Act.put]
              have hbo := both_v y.x ⟨m, f, data⟩ y.p p8 y.n y.c n8 c8 gw.w.drew (TriC.ext y.tri (Ext.trans HXW5.out (Ext.drew (Ext.trans HX52.out HXG.out)))) (TriC.ext HTR.out (Ext.trans HX5u.out (Ext.drew (Ext.trans HX52.out HXG.out)))) HYR.out HRI.out
              simp only at hbo
              have HBO := Lib.hid hbo
              clear hbo
              refine wpAnyH_ready (rs := [4]) (by kernel_rfl) (by simp) ?_
              refine AllReadyH.cons (o := ⟨some 47, .call { callee := .value (.func 39), args := #[.tmp 45, .tmp 46], argTypes := #[30, 30] }, _, _, _, none⟩) rfl (fun K hK => ?_) AllReadyH.nil
              go_simp
              refine HBO.out.mono ?_
              rintro e w10 ⟨⟨v10, rfl, ho10⟩, hx10⟩
              obtain ⟨p10, n10, c10, rfl⟩ := own_form ho10
              have HO10 := Lib.hid ho10
              have hx910 : Ext gw.w w10 := Ext.trans (Ext.drew (Ext.refl _)) hx10
              have HX910 := Lib.hid hx910
              have HX510 := Lib.hid (Ext.trans (Ext.trans HX52.out HXG.out) hx910)
              have how10 := own_ext HO4.out (Ext.trans HX45.out HX510.out)
              have HOW10 := Lib.hid how10
              have hvl := how10.1
              obtain ⟨u0, hu0⟩ : ∃ u0, vs[y.k * 3]? = some u0 := ⟨_, List.getElem?_eq_getElem (by omega)⟩
              obtain ⟨u1, hu1⟩ : ∃ u1, vs[y.k * 3 + 1]? = some u1 := ⟨_, List.getElem?_eq_getElem (by omega)⟩
              obtain ⟨u2, hu2⟩ : ∃ u2, vs[y.k * 3 + 2]? = some u2 := ⟨_, List.getElem?_eq_getElem (by omega)⟩
              have z0 : w10.cell? ⟨g, y.k * 3, none⟩ = some u0 := by have := how10.cells (g := g) rfl _ _ hu0; rw [addN, Nat.zero_add] at this; exact this
              have z1 : w10.cell? ⟨g, y.k * 3 + 1, none⟩ = some u1 := by have := how10.cells (g := g) rfl _ _ hu1; rw [addN, Nat.zero_add] at this; exact this
              have z2 : w10.cell? ⟨g, y.k * 3 + 2, none⟩ = some u2 := by have := how10.cells (g := g) rfl _ _ hu2; rw [addN, Nat.zero_add] at this; exact this
              have r0 : w10.frozen? ⟨g, y.k * 3, none⟩ = false := how10.frozenAt _
              have r1 : w10.frozen? ⟨g, y.k * 3 + 1, none⟩ = false := how10.frozenAt _
              have r2 : w10.frozen? ⟨g, y.k * 3 + 2, none⟩ = false := how10.frozenAt _
              clear ho10 hx10 hx910 how10
              go_wp2_with fail
              refine hK.out _ _ (HS9.out _ HX910.out) (fun _ => ?_)
              clear hK K
              try simp only [Act.put, List.setIfInBounds_toArray, List.set_cons_zero, List.set_cons_succ]
              refine wpAnyH_take (i := 5) (v := .pointer (some ⟨g, y.k * 3, none⟩)) rfl (by kernel_rfl) (by kernel_rfl) (by kernel_rfl) (fun _ _ _ h => h) (Or.inl ⟨by rfl, ?_⟩) (HS9.out _ HX910.out) ?_
              · rintro w' ⟨q1, ⟨q2, q3, q4⟩, q5, q6, q7⟩
                go_simp
              try simp only [Act.put, List.setIfInBounds_toArray]
              refine wpAnyH_ready (rs := [6]) (by kernel_rfl) (by simp) ?_
              refine AllReadyH.cons (o := ⟨none, .store 30 (.tmp 48) (.tmp 47), _, _, _, none⟩) rfl (fun K hK => ?_) AllReadyH.nil
              go_simp
              obtain ⟨hrow3, hg3⟩ := own_put3 HOW10.out hkl (.int .i64 y.x.i) (.int .i64 (min y.x.f f)) (.slice p10 n10 c10)
              obtain ⟨s10, ⟨sb0, sb1, sb2⟩, sd0, sd1, sd2⟩ := HS9.out _ HX910.out
              have hbdw : bd < w3.heap.size := Nat.lt_of_lt_of_le (Array.getElem?_eq_some_iff.1 HBD.out).1 HX3.out.size
              have far : ∀ (b o : Nat) (v : Value), b ≠ g → w10.cell? ⟨b, o, none⟩ = some v → (((w10.setCell ⟨g, y.k * 3, none⟩ (.int .i64 y.x.i)).setCell ⟨g, y.k * 3 + 1, none⟩ (.int .i64 (min y.x.f f))).setCell ⟨g, y.k * 3 + 2, none⟩ (.slice p10 n10 c10)).cell? ⟨b, o, none⟩ = some v := fun b o v hne hc => (hg3.cell_far ⟨b, o, none⟩ (World.block_lt_of_cell? _ _ hc) (fun e => hne (by simpa using e))).trans hc
              have f10 := far _ _ _ (by omega) s10
              refine hK.out _ _ ⟨f10, ⟨far _ _ _ (by have := HS5.out; omega) sb0, far _ _ _ (by have := HS5.out; omega) sb1, far _ _ _ (by have := HS5.out; omega) sb2⟩, far _ _ _ (by omega) sd0, far _ _ _ (by omega) sd1, far _ _ _ (by omega) sd2⟩ (fun _ => ?_)
              clear hK K s10 sb0 sb1 sb2 sd0 sd1 sd2 far
              have hkeep := (ext_keeps (B := w5.heap.size) (Ext.trans HX2.out (Ext.trans HXG.out HX910.out))).trans ((KeepsOthers.trans (KeepsOthers.trans (KeepsOthers.setCell w10 ⟨g, y.k * 3, none⟩ (.int .i64 y.x.i)) (KeepsOthers.setCell _ ⟨g, y.k * 3 + 1, none⟩ (.int .i64 (min y.x.f f)))) (KeepsOthers.setCell _ ⟨g, y.k * 3 + 2, none⟩ (.slice p10 n10 c10))).from w5.heap.size)
              have hby := u8_past HO10.out hg3 (fun r e h => by cases e; have h7 := (HO10.out.lt _ h).1; have h8 := (Ext.trans HX52.out HXG.out).size; have h9 : gw.w.drew.heap.size = gw.w.heap.size := rfl; have := HS5.out; omega)
              have hext : Ext w (((w10.setCell ⟨g, y.k * 3, none⟩ (.int .i64 y.x.i)).setCell ⟨g, y.k * 3 + 1, none⟩ (.int .i64 (min y.x.f f))).setCell ⟨g, y.k * 3 + 2, none⟩ (.slice p10 n10 c10)) := Lay.grown_old (Ext.trans HXW5.out HX510.out) (fun k e => by cases e; have := (Ext.trans HXW.out HX3.out).size; omega) hg3
              have h8w : (((w10.setCell ⟨g, y.k * 3, none⟩ (.int .i64 y.x.i)).setCell ⟨g, y.k * 3 + 1, none⟩ (.int .i64 (min y.x.f f))).setCell ⟨g, y.k * 3 + 2, none⟩ (.slice p10 n10 c10)).heap[w.heap.size + 1 + 1]? = some (.cells #[.slice none 0 0] 22 (0, 0)) := by
                have h80 := heap_ext H8.out (Ext.trans HX5.out HX510.out)
                have h81 := (Array.getElem?_eq_some_iff.1 (heap_ext H8.out (Ext.trans HXU.out HX3.out))).1
                rw [hg3.block _ (Array.getElem?_eq_some_iff.1 h80).1 (fun e => by simp only [Option.some.injEq] at e; omega)]
                exact h80
              have h81 := (Array.getElem?_eq_some_iff.1 (heap_ext H8.out (Ext.trans HXU.out HX3.out))).1
              refine wpAnyH_done (by kernel_rfl) ?_ _
              generalize (((w10.setCell ⟨g, y.k * 3, none⟩ (.int .i64 y.x.i)).setCell ⟨g, y.k * 3 + 1, none⟩ (.int .i64 (min y.x.f f))).setCell ⟨g, y.k * 3 + 2, none⟩ (.slice p10 n10 c10)) = W11 at hrow3 hg3 f10 hkeep hby hext h8w ⊢
              have HROW3 := Lib.hid hrow3
              have HKEEP := Lib.hid hkeep
              have HBY := Lib.hid hby
              have HEXT := Lib.hid hext
              have H8W := Lib.hid h8w
              have s8 : W11.cell? ⟨w.heap.size + 1 + 1, 0, none⟩ = some (.slice none 0 0) := cell_of_row _ _ 0 _ _ _ h8w
              have q8 : W11.frozen? ⟨w.heap.size + 1 + 1, 0, none⟩ = false := frozen_of_row _ _ _ _ _ h8w
              clear hrow3 hg3 hkeep hby hext h8w z0 z1 z2 r0 r1 r2
              gi_wp2
              have hgt := Lay.grown_set W11 (w.heap.size + 1 + 1) 0 (.slice (some ⟨g, 0, none⟩) no co)
              refine ⟨HKEEP.out.trans ((KeepsOthers.setCell W11 ⟨w.heap.size + 1 + 1, 0, none⟩ (.slice (some ⟨g, 0, none⟩) no co)).from _), pre, y, rfl, HPRE.out, HYI.out, .inr ⟨rfl, HME.out, Below.setCell HEXT.out (p := ⟨w.heap.size + 1 + 1, 0, none⟩) (by show w.heap.size ≤ w.heap.size + 1 + 1; omega) _, World.cell?_setCell_same' _ _ _ (by rw [s8]; rfl), p10, n10, c10, ?_, ?_⟩⟩
              · refine u8_past (HBY.out.base ?_) hgt (fun r e h => ?_)
                · have h8 := (Ext.trans HX52.out HXG.out).size
                  exact h8
                · cases e
                  have h7 := (HBY.out.lt _ h).1
                  have h8 := (Ext.trans HX52.out HXG.out).size
                  have h9 : gw.w.drew.heap.size = gw.w.heap.size := rfl
                  have := HS5.out
                  omega
              · exact HROW3.out.kept hgt (.inr (fun e => by simp only [Value.ownBlock, Option.some.injEq] at e; omega))
        · have hb1 : (y.x.i == m) = false := by simp [hyi]
          rw [hb1] at HOF
          have HYI := Lib.hid hyi
          clear hb1 hyi
          gi_wp2_with fail
          refine ⟨trivial, (calls_round HOF.out).mono ?_⟩
          rintro e w2 ⟨rfl, hx2⟩
          have HX2 := Lib.hid hx2
          clear hx2 b0 b1 b2 e5 e6 hx5
          gi_wp2
          refine ⟨ext_keeps HX2.out, HX2.out.mono (by have := HX.out.size; have := HS5.out; omega), ⟨fun z hz => ?_, Ext.trans HX.out HX2.out⟩⟩
          rcases List.mem_append.1 hz with hz | hz
          · exact HPRE.out z hz
          · simp at hz; subst hz; exact HYI.out
      case done =>
        rintro D ys W hD rfl hi hK
        have hxx := hi.2
        have HNO := Lib.hid hi.1
        clear hi
        have c10 : W.cell? ⟨w4.heap.size, 0, none⟩ = some (.slice po no co) := hxx.cell (by rw [cell_of_row _ _ _ _ _ _ H10.out]; rfl)
        have hbdW := heap_ext (heap_ext HBD.out HX5u.out) hxx
        have d0 : W.cell? ⟨bd, 0, none⟩ = some (.int .i64 m) := cell_of_row _ _ 0 _ _ _ hbdW
        have d1 : W.cell? ⟨bd, 1, none⟩ = some (.int .i64 f) := cell_of_row _ _ 1 _ _ _ hbdW
        have d2 : W.cell? ⟨bd, 2, none⟩ = some (.slice p8 n8 c8) := cell_of_row _ _ 2 _ _ _ hbdW
        have hwW := Ext.trans HXW5.out hxx
        have hx34 : Ext w3 W := Ext.trans HX4.out (Ext.trans HX45.out hxx)
        have HOW := Lib.hid (own_ext HO4.out (Ext.trans HX45.out hxx))
        have HOWA := Lib.hid (own_ext HOW.out (Ext.alloc W (.cells #[.int .i64 m, .int .i64 f, .slice p8 n8 c8] 30)))
        have H8W := Lib.hid (heap_ext H8.out (Ext.trans HX5.out hxx))
        have HXX := Lib.hid hxx
        have HWW := Lib.hid hwW
        have HBW := Lib.hid hx34.size
        have HKD := Lib.hid hK
        have ht83 : w.heap.size + 1 + 1 < w3.heap.size := by have := (Array.getElem?_eq_some_iff.1 (heap_ext H8.out (Ext.trans HXU.out HX3.out))).1; omega
        have HT83 := Lib.hid ht83
        clear hbdW hxx hwW hx34 hK ht83
        go_wp2_with (at_builtin; refine wpList_append_own_at _ rfl (.tmp 50) (.tmp 52) 22 rfl w3.heap.size 30 i0 (.agg #[.int .i64 0, .int .i64 0, .slice none 0 0]) 3 40 Try.underlying22 hi0 hzi0 hzi1 hzi2 rfl (by decide) (.slice po no co) n vs rfl HOWA.out ⟨W.heap.size, 0, none⟩ 1 1 [.int .i64 m, .int .i64 f, .slice p8 n8 c8] rfl rfl (fun j u hj => by rw [addN, Nat.zero_add, cell_of_row _ _ _ _ _ _ (heap_alloc_new W _)]; simpa using hj) (by intro u hu; simp at hu; rcases hu with rfl | rfl | rfl <;> rfl) (by have := HNB.out; unfold maxLen; omega) (by have := HNB.out; omega) (by have := HBW.out; simp; omega) ?_; intro v9 w9 hown9 hg9 _ hat9; have hne9 : some (w.heap.size + 1 + 1) ≠ (Value.slice po no co).ownBlock := (fun e => by have := (HOWA.out.lt _ e.symm).1; have := HT83.out; omega); have h89 : w9.heap[w.heap.size + 1 + 1]? = some (.cells #[.slice none 0 0] 22 (0, 0)) := (by rw [hg9.block _ (by have := HT83.out; have := HBW.out; simp; omega) hne9, heap_alloc_old _ _ (by have := HT83.out; have := HBW.out; omega)]; exact H8W.out); have s8 : w9.cell? ⟨w.heap.size + 1 + 1, 0, none⟩ = some (.slice none 0 0) := cell_of_row _ _ 0 _ _ _ h89; have q8 : w9.frozen? ⟨w.heap.size + 1 + 1, 0, none⟩ = false := frozen_of_row _ _ _ _ _ h89; obtain ⟨p9, n9, c9, rfl⟩ := owns_form hown9; have HO9 := Lib.hid hown9; have HG9 := Lib.hid hg9; have HS8 := Lib.hid s8; clear hown9 hg9 h89 hat9 hne9)
        have hK1 : (w9.setCell ⟨w.heap.size + 1 + 1, 0, none⟩ (.slice p9 n9 c9)).heap[D]? = some (.deferred (some [])) := by
          refine (KeepsOthers.setCell w9 ⟨w.heap.size + 1 + 1, 0, none⟩ (.slice p9 n9 c9)).same D _ ?_ rfl
          rw [HG9.out.block D (by have := (Array.getElem?_eq_some_iff.1 HKD.out).1; simp; omega) (fun e => by
            rcases owns_ne HOWA.out (row := some D) (fun r e' => by cases e'; exact ⟨_, by rw [heap_alloc_old _ _ (Array.getElem?_eq_some_iff.1 HKD.out).1]; exact HKD.out, rfl⟩) with h | h
            · rw [h] at e; cases e
            · exact h e.symm), heap_alloc_old _ _ (Array.getElem?_eq_some_iff.1 HKD.out).1]
          exact HKD.out
        have hc8 : (w9.setCell ⟨w.heap.size + 1 + 1, 0, none⟩ (.slice p9 n9 c9)).cell? ⟨w.heap.size + 1 + 1, 0, none⟩ = some (.slice p9 n9 c9) := World.cell?_setCell_same' _ _ _ (by rw [HS8.out]; rfl)
        have hgt := Lay.grown_set w9 (w.heap.size + 1 + 1) 0 (.slice p9 n9 c9)
        have hx9 : Ext w w9 := Lay.grown_old (Ext.trans HWW.out (Ext.alloc W (.cells #[.int .i64 m, .int .i64 f, .slice p8 n8 c8] 30))) (fun k e => by have := (HOWA.out.lt k e).1; have := HT83.out; omega) HG9.out
        have hx10 : Ext w (w9.setCell ⟨w.heap.size + 1 + 1, 0, none⟩ (.slice p9 n9 c9)) := Below.setCell hx9 (p := ⟨w.heap.size + 1 + 1, 0, none⟩) (by show w.heap.size ≤ w.heap.size + 1 + 1; omega) _
        have ho10 : (w9.setCell ⟨w.heap.size + 1 + 1, 0, none⟩ (.slice p9 n9 c9)).ownsRow w3.heap.size 30 3 (.slice p9 n9 c9) (n + 1) (vs ++ [.int .i64 m, .int .i64 f, .slice p8 n8 c8]) := HO9.out.kept hgt (by
          cases hv : (Value.slice p9 n9 c9).ownBlock with
          | none => exact .inl rfl
          | some b => exact .inr (fun e => by have := (HO9.out.lt b hv).1; have := HT83.out; simp only [Option.some.injEq] at e; omega))
        have hb9 : (Lay.int .u8).Own w9 W0.heap.size 5 (.slice p8 n8 c8) data := u8_past ((HDT.out.ext (Ext.trans HX5u.out HXX.out)).ext (Ext.alloc W (.cells #[.int .i64 m, .int .i64 f, .slice p8 n8 c8] 30))) HG9.out (fun r e h => by
          have h1 := (HOWA.out.lt r e).1
          have h2 := (HDT.out.lt r h).2
          have h3 := HX3.out.size
          omega)
        have hb10 : (Lay.int .u8).Own (w9.setCell ⟨w.heap.size + 1 + 1, 0, none⟩ (.slice p9 n9 c9)) W0.heap.size 5 (.slice p8 n8 c8) data := u8_past hb9 hgt (fun r e h => by cases e; have := (hb9.lt _ h).1; have := HSZ0.out; omega)
        generalize (w9.setCell ⟨w.heap.size + 1 + 1, 0, none⟩ (.slice p9 n9 c9)) = w10 at hK1 hc8 hx10 ho10 hb10 ⊢
        refine ⟨by simp, .inl ⟨_, _, rfl, run_takeDeferred hK1, ?_⟩⟩
        have hgD := grownBy_putObj' w10 D (.deferred none)
        have hrD : ∀ r, some D = some r → ∃ o : Obj, w10.heap[r]? = some o ∧ o.isCells = false := fun r e => by cases e; exact ⟨_, hK1, rfl⟩
        have hc11 := cell_kept hc8 hgD hrD
        have hx11 : Ext w (w10.putObj D (.deferred none)) := Lay.grown_old hx10 (fun k e => by cases e; have := HXW5.out.size; omega) hgD
        have ho11 := ho10.kept hgD (owns_ne ho10 hrD)
        obtain ⟨vb, ob1, ob2⟩ := hb10
        have hb11 : (Lay.int .u8).Own (w10.putObj D (.deferred none)) W0.heap.size 5 (.slice p8 n8 c8) data := ⟨vb, ob1.kept hgD (owns_ne ob1 hrD), plain_u8.k ob2.all⟩
        have hall11 : LPc.All (w10.putObj D (.deferred none)) (vs ++ [.int .i64 m, .int .i64 f, .slice p8 n8 c8]) (l ++ [⟨m, f, data⟩]) := (HVS.out.ext hx11).append (Lay.All.single (E := LPc) (show LTri.R _ _ (m, f, data) from (tri_mk hb11.sl HM.out HF.out).tri))
        refine ⟨.slice p9 n9 c9, ?_, ⟨_, l ++ [⟨m, f, data⟩], rfl, sl_mk ho11 (by simp [HLN.out]) hall11, PutS.new HRI.out (none_of HBK.out HNO.out)⟩, hx11⟩
        simp [results, Try.f15, go_sem, hc11]
      case stop =>
        rintro D cd pre W hD hpre ⟨ini, y, rfl, hini, hyi, hx⟩ hK
        have hmin := Lib.hid (And.intro hpre (And.intro hini hyi))
        clear hpre hini hyi
        rcases hx with ⟨rfl, hnm, hxx⟩ | ⟨rfl, hme, hxw, hc8, q, k, d, hown, hrow⟩
        · have HNM := Lib.hid hnm
          clear hnm
          refine (wpIn_wide (n := 9)).2 ?_
          have c10 : W.cell? ⟨w4.heap.size, 0, none⟩ = some (.slice po no co) := hxx.cell (by rw [cell_of_row _ _ _ _ _ _ H10.out]; rfl)
          have hbdW := heap_ext (heap_ext HBD.out HX5u.out) hxx
          have d0 : W.cell? ⟨bd, 0, none⟩ = some (.int .i64 m) := cell_of_row _ _ 0 _ _ _ hbdW
          have d1 : W.cell? ⟨bd, 1, none⟩ = some (.int .i64 f) := cell_of_row _ _ 1 _ _ _ hbdW
          have d2 : W.cell? ⟨bd, 2, none⟩ = some (.slice p8 n8 c8) := cell_of_row _ _ 2 _ _ _ hbdW
          have hwW := Ext.trans HXW5.out hxx
          have hx34 : Ext w3 W := Ext.trans HX4.out (Ext.trans HX45.out hxx)
          have HOW := Lib.hid (own_ext HO4.out (Ext.trans HX45.out hxx))
          have HOWA := Lib.hid (own_ext HOW.out (Ext.alloc W (.cells #[.int .i64 m, .int .i64 f, .slice p8 n8 c8] 30)))
          have H8W := Lib.hid (heap_ext H8.out (Ext.trans HX5.out hxx))
          have HXX := Lib.hid hxx
          have HWW := Lib.hid hwW
          have HBW := Lib.hid hx34.size
          have HKD := Lib.hid hK
          have ht83 : w.heap.size + 1 + 1 < w3.heap.size := by have := (Array.getElem?_eq_some_iff.1 (heap_ext H8.out (Ext.trans HXU.out HX3.out))).1; omega
          have HT83 := Lib.hid ht83
          clear hbdW hxx hwW hx34 hK ht83
          go_wp2_with (at_builtin; refine wpList_append_own_at _ rfl (.tmp 50) (.tmp 52) 22 rfl w3.heap.size 30 i0 (.agg #[.int .i64 0, .int .i64 0, .slice none 0 0]) 3 40 Try.underlying22 hi0 hzi0 hzi1 hzi2 rfl (by decide) (.slice po no co) n vs rfl HOWA.out ⟨W.heap.size, 0, none⟩ 1 1 [.int .i64 m, .int .i64 f, .slice p8 n8 c8] rfl rfl (fun j u hj => by rw [addN, Nat.zero_add, cell_of_row _ _ _ _ _ _ (heap_alloc_new W _)]; simpa using hj) (by intro u hu; simp at hu; rcases hu with rfl | rfl | rfl <;> rfl) (by have := HNB.out; unfold maxLen; omega) (by have := HNB.out; omega) (by have := HBW.out; simp; omega) ?_; intro v9 w9 hown9 hg9 _ hat9; have hne9 : some (w.heap.size + 1 + 1) ≠ (Value.slice po no co).ownBlock := (fun e => by have := (HOWA.out.lt _ e.symm).1; have := HT83.out; omega); have h89 : w9.heap[w.heap.size + 1 + 1]? = some (.cells #[.slice none 0 0] 22 (0, 0)) := (by rw [hg9.block _ (by have := HT83.out; have := HBW.out; simp; omega) hne9, heap_alloc_old _ _ (by have := HT83.out; have := HBW.out; omega)]; exact H8W.out); have s8 : w9.cell? ⟨w.heap.size + 1 + 1, 0, none⟩ = some (.slice none 0 0) := cell_of_row _ _ 0 _ _ _ h89; have q8 : w9.frozen? ⟨w.heap.size + 1 + 1, 0, none⟩ = false := frozen_of_row _ _ _ _ _ h89; obtain ⟨p9, n9, c9, rfl⟩ := owns_form hown9; have HO9 := Lib.hid hown9; have HG9 := Lib.hid hg9; have HS8 := Lib.hid s8; clear hown9 hg9 h89 hat9 hne9)
          have hK1 : (w9.setCell ⟨w.heap.size + 1 + 1, 0, none⟩ (.slice p9 n9 c9)).heap[D]? = some (.deferred (some [])) := by
            refine (KeepsOthers.setCell w9 ⟨w.heap.size + 1 + 1, 0, none⟩ (.slice p9 n9 c9)).same D _ ?_ rfl
            rw [HG9.out.block D (by have := (Array.getElem?_eq_some_iff.1 HKD.out).1; simp; omega) (fun e => by
              rcases owns_ne HOWA.out (row := some D) (fun r e' => by cases e'; exact ⟨_, by rw [heap_alloc_old _ _ (Array.getElem?_eq_some_iff.1 HKD.out).1]; exact HKD.out, rfl⟩) with h | h
              · rw [h] at e; cases e
              · exact h e.symm), heap_alloc_old _ _ (Array.getElem?_eq_some_iff.1 HKD.out).1]
            exact HKD.out
          have hc8 : (w9.setCell ⟨w.heap.size + 1 + 1, 0, none⟩ (.slice p9 n9 c9)).cell? ⟨w.heap.size + 1 + 1, 0, none⟩ = some (.slice p9 n9 c9) := World.cell?_setCell_same' _ _ _ (by rw [HS8.out]; rfl)
          have hgt := Lay.grown_set w9 (w.heap.size + 1 + 1) 0 (.slice p9 n9 c9)
          have hx9 : Ext w w9 := Lay.grown_old (Ext.trans HWW.out (Ext.alloc W (.cells #[.int .i64 m, .int .i64 f, .slice p8 n8 c8] 30))) (fun k e => by have := (HOWA.out.lt k e).1; have := HT83.out; omega) HG9.out
          have hx10 : Ext w (w9.setCell ⟨w.heap.size + 1 + 1, 0, none⟩ (.slice p9 n9 c9)) := Below.setCell hx9 (p := ⟨w.heap.size + 1 + 1, 0, none⟩) (by show w.heap.size ≤ w.heap.size + 1 + 1; omega) _
          have ho10 : (w9.setCell ⟨w.heap.size + 1 + 1, 0, none⟩ (.slice p9 n9 c9)).ownsRow w3.heap.size 30 3 (.slice p9 n9 c9) (n + 1) (vs ++ [.int .i64 m, .int .i64 f, .slice p8 n8 c8]) := HO9.out.kept hgt (by
            cases hv : (Value.slice p9 n9 c9).ownBlock with
            | none => exact .inl rfl
            | some b => exact .inr (fun e => by have := (HO9.out.lt b hv).1; have := HT83.out; simp only [Option.some.injEq] at e; omega))
          have hb9 : (Lay.int .u8).Own w9 W0.heap.size 5 (.slice p8 n8 c8) data := u8_past ((HDT.out.ext (Ext.trans HX5u.out HXX.out)).ext (Ext.alloc W (.cells #[.int .i64 m, .int .i64 f, .slice p8 n8 c8] 30))) HG9.out (fun r e h => by
            have h1 := (HOWA.out.lt r e).1
            have h2 := (HDT.out.lt r h).2
            have h3 := HX3.out.size
            omega)
          have hb10 : (Lay.int .u8).Own (w9.setCell ⟨w.heap.size + 1 + 1, 0, none⟩ (.slice p9 n9 c9)) W0.heap.size 5 (.slice p8 n8 c8) data := u8_past hb9 hgt (fun r e h => by cases e; have := (hb9.lt _ h).1; have := HSZ0.out; omega)
          generalize (w9.setCell ⟨w.heap.size + 1 + 1, 0, none⟩ (.slice p9 n9 c9)) = w10 at hK1 hc8 hx10 ho10 hb10 ⊢
          refine ⟨by simp, .inl ⟨_, _, rfl, run_takeDeferred hK1, ?_⟩⟩
          have hgD := grownBy_putObj' w10 D (.deferred none)
          have hrD : ∀ r, some D = some r → ∃ o : Obj, w10.heap[r]? = some o ∧ o.isCells = false := fun r e => by cases e; exact ⟨_, hK1, rfl⟩
          have hc11 := cell_kept hc8 hgD hrD
          have hx11 : Ext w (w10.putObj D (.deferred none)) := Lay.grown_old hx10 (fun k e => by cases e; have := HXW5.out.size; omega) hgD
          have ho11 := ho10.kept hgD (owns_ne ho10 hrD)
          obtain ⟨vb, ob1, ob2⟩ := hb10
          have hb11 : (Lay.int .u8).Own (w10.putObj D (.deferred none)) W0.heap.size 5 (.slice p8 n8 c8) data := ⟨vb, ob1.kept hgD (owns_ne ob1 hrD), plain_u8.k ob2.all⟩
          have hall11 : LPc.All (w10.putObj D (.deferred none)) (vs ++ [.int .i64 m, .int .i64 f, .slice p8 n8 c8]) (l ++ [⟨m, f, data⟩]) := (HVS.out.ext hx11).append (Lay.All.single (E := LPc) (show LTri.R _ _ (m, f, data) from (tri_mk hb11.sl HM.out HF.out).tri))
          refine ⟨.slice p9 n9 c9, ?_, ⟨_, l ++ [⟨m, f, data⟩], rfl, sl_mk ho11 (by simp [HLN.out]) hall11, PutS.far HRI.out (last_of HBK.out hmin.out.1 hmin.out.2.1 hmin.out.2.2) HNM.out⟩, hx11⟩
          simp [results, Try.f15, go_sem, hc11]
        · refine (wpIn_wide (n := 9)).2 ?_
          go_wp2
          have hgD := grownBy_putObj' W D (.deferred none)
          have hrD : ∀ r, some D = some r → ∃ o : Obj, W.heap[r]? = some o ∧ o.isCells = false := fun r e => by cases e; exact ⟨_, hK, rfl⟩
          have hc11 := cell_kept hc8 hgD hrD
          have hx11 : Ext w (W.putObj D (.deferred none)) := Lay.grown_old hxw (fun k e => by cases e; have := HXW5.out.size; omega) hgD
          have ho11 := hrow.kept hgD (owns_ne hrow hrD)
          obtain ⟨vb, ob1, ob2⟩ := hown
          have hb11 : (Lay.int .u8).Own (W.putObj D (.deferred none)) w5.heap.size 5 (.slice q k d) (both y.x ⟨m, f, data⟩).d := ⟨vb, ob1.kept hgD (owns_ne ob1 hrD), plain_u8.k ob2.all⟩
          have hkl : y.k < l.length := (List.getElem?_eq_some_iff.1 y.at_).1
          have hwmin : (Lit.int .i64 (min y.x.f f)).wf = true := by
            by_cases h : y.x.f ≤ f
            · rw [show min y.x.f f = y.x.f by omega]; exact y.tri.wb
            · rw [show min y.x.f f = f by omega]; exact HF.out
          have hall11 := all_put3 (y := both y.x ⟨m, f, data⟩) (k := y.k) (HVS.out.ext hx11) HLN.out (by rw [← HLN.out]; exact hkl) (tri_mk hb11.sl y.tri.wa hwmin)
          have hlast := last_of HBK.out hmin.out.1 hmin.out.2.1 hmin.out.2.2
          have hput := PutS.meet HRI.out hlast hme
          rw [set_meet hkl] at hput
          refine ⟨by simp, .inl ⟨_, _, rfl, run_takeDeferred hK, ?_⟩⟩
          refine ⟨.slice po no co, ?_, ⟨_, l.set y.k (both y.x ⟨m, f, data⟩), rfl, sl_mk ho11 (by simp [HLN.out]) hall11, hput⟩, hx11⟩
          simp [results, Try.f15, go_sem, hc11]
    · have hrf : rightB ⟨m, f, data⟩ = false := by simpa using hri
      have HRI : Hid (¬ (⟨m, f, data⟩ : Pc).Right) := Lib.hid (fun h => hri ((rightB_iff _).2 h))
      rw [hrf] at hmay
      have HMAY := Lib.hid hmay
      clear hmay hri htr hrf
      go_wp2_with fail
      refine HMAY.out.mono ?_
      rintro e w3 ⟨rfl, hx3⟩
      have HX3 := Lib.hid (Ext.trans hxU hx3)
      have hb3 := heap_ext H8.out HX3.out
      have HB3 := Lib.hid hb3
      have s8 : w3.cell? ⟨w.heap.size + 1 + 1, 0, none⟩ = some (.slice none 0 0) := cell_of_row _ _ 0 _ _ _ hb3
      have q8 : w3.frozen? ⟨w.heap.size + 1 + 1, 0, none⟩ = false := frozen_of_row _ _ _ _ _ hb3
      clear hx3 hb3 d0 d1 d2
      go_wp2
      have hc8 : (w3.setCell ⟨w.heap.size + 1 + 1, 0, none⟩ (.slice p n c)).cell? ⟨w.heap.size + 1 + 1, 0, none⟩ = some (.slice p n c) := World.cell?_setCell_same' _ _ _ (by rw [s8]; rfl)
      have hx8 : Ext w (w3.setCell ⟨w.heap.size + 1 + 1, 0, none⟩ (.slice p n c)) := Below.setCell (Ext.trans HX0.out HX3.out) (p := ⟨w.heap.size + 1 + 1, 0, none⟩) (by show w.heap.size ≤ w.heap.size + 1 + 1; omega) _
      refine ⟨.slice p n c, ?_, ⟨_, l, rfl, HL.out.ext hx8, PutS.not HRI.out⟩, hx8⟩
      simp [results, Try.f15, go_sem, hc8]
end Go.Proofs.Ytcajmgdenhegjaa.Wr
