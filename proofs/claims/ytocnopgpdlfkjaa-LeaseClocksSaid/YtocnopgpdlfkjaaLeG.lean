/- Leases: the live questions. -/
import Derived.Test.YtocnopgpdlfkjaaLeF
namespace Go.Proofs.Ytocnopgpdlfkjaa.Ls
open Go.RowKit Go.Proofs.Ytocnopgpdlfkjaa Go.Sort
set_option linter.unusedVariables false

theorem sl_row {α : Type} {E : Lay α} {w : World} {p : Option Addr} {n c : Nat} {l : List α} (h : E.Sl w (.slice p n c) l) : E.Row w p n l := by
  obtain ⟨_, _, _, e, hr, _⟩ := h
  cases e
  exact hr
theorem first_ptr {w : World} {p : Option Addr} {n c : Nat} {x : Le} {l : List Le} (h : LLe.Sl w (.slice p n c) (x :: l)) : ∃ b o, p = some ⟨b, o, none⟩ := by
  obtain ⟨b, o, e, _⟩ := le_at (sl_row h) (j := 0) rfl
  exact ⟨b, o, e⟩
theorem first_cells {w : World} {b o n c : Nat} {x : Le} {l : List Le} (h : LLe.Sl w (.slice (some ⟨b, o, none⟩) n c) (x :: l)) : w.cell? ⟨b, o, none⟩ = some (.int .i64 x.c) ∧ w.cell? ⟨b, o + 1, none⟩ = some (.int .i64 x.i) ∧ w.cell? ⟨b, o + 2, none⟩ = some (.int .i64 x.k) ∧ w.cell? ⟨b, o + 3, none⟩ = some (.int .i64 x.f) ∧ w.cell? ⟨b, o + 4, none⟩ = some (.int .i64 x.t) ∧ w.cell? ⟨b, o + 5, none⟩ = some (.int .i64 x.u) ∧ w.cell? ⟨b, o + 6, none⟩ = some (.int .i64 x.e) := by
  obtain ⟨b', o', e, _, h0, h1, h2, h3, h4, h5, h6⟩ := le_at (sl_row h) (j := 0) rfl
  cases e
  simp only [Nat.zero_mul, Nat.add_zero] at h0 h1 h2 h3 h4 h5 h6
  exact ⟨h0, h1, h2, h3, h4, h5, h6⟩
theorem rising_one {K : List Int} {x : Int} (h : Rising [x] K) : K = [x] := by
  obtain ⟨h1, h2, h3⟩ := h
  match K, h1, h2, h3 with
  | [], _, h2, _ => exact absurd ((h2 x).2 (by simp)) (by simp)
  | [y], _, h2, _ => have := (h2 y).1 (by simp); simp at this; rw [this]
  | y :: z :: K, _, _, h3 => simp at h3
theorem had_a : true = true ↔ hadP [⟨1, 5, 2, 0, 8, 13, 0⟩, ⟨2, 5, 1, 8, 12, 13, 0⟩] 1 5 1 2 8 := by
  refine ⟨fun _ => ⟨by omega, .inl rfl, fun x h1 h2 => ⟨_, List.mem_cons_self, ⟨rfl, rfl, .inr rfl⟩, ?_, ?_⟩⟩, fun _ => rfl⟩
  · show 0 ≤ x; omega
  · exact h2
theorem had_b : false = true ↔ hadP [⟨1, 5, 2, 0, 8, 13, 0⟩, ⟨2, 5, 1, 8, 12, 13, 0⟩] 2 5 2 8 9 := by
  refine ⟨fun h => (by cases h), fun ⟨_, _, h⟩ => ?_⟩
  obtain ⟨y, hy, h1, h2⟩ := h 8 (by omega) (by omega)
  simp at hy
  rcases hy with rfl | rfl
  · simp at h1
  · simp at h1
theorem had_c : false = true ↔ hadP [⟨1, 5, 2, 0, 8, 13, 0⟩, ⟨2, 5, 1, 8, 12, 13, 0⟩] 1 5 2 2 9 := by
  refine ⟨fun h => (by cases h), fun ⟨_, _, h⟩ => ?_⟩
  obtain ⟨y, hy, h1, h2⟩ := h 8 (by omega) (by omega)
  simp at hy
  rcases hy with rfl | rfl
  · simp at h2
  · simp at h1
set_option maxRecDepth 100000 in
set_option maxHeartbeats 4000000 in
theorem head_v (w : World) : Calls Try.prog 9 #[] w fun e w' => e = .returned (.bool true) ∧ Ext w w' := by
  obtain ⟨i0, hi0, hzi0, hzi1, hzi2⟩ := info_parts info_le
  go_enter Try.func9, Try.ntmps9
  go_wp2_with fail
  refine (askq_any _ _ _ _ _).mono ?_
  rintro e wa1 ⟨rfl, hx⟩
  have HXa1 := Lib.hid (Ext.trans (Ext.refl w) hx)
  clear hx
  go_wp2_with fail
  refine (ask_v _ [] 10 ⟨1, 5, 2, 0, 8, 0, 0⟩ 1 _ (Lay.Sl.nil _ _) (by simp) (by unfold LeWf; decide) (by omega)).mono ?_
  rintro e wa ⟨⟨va, ka, Ka, r, rfl, hr, hs, hk, hwho⟩, hx⟩
  obtain rfl : r = ([⟨1, 5, 2, 0, 8, 13, 0⟩], true) := hr.trans (by kernel_rfl)
  have HXa := Lib.hid (Ext.trans HXa1.out hx)
  have HSa1 := Lib.hid hs
  obtain ⟨pa, na, ca, rfl, hrow, _⟩ := hs
  obtain rfl : 1 = na := hrow.1
  clear hrow hwho hr
  obtain ⟨pka, nka, cka, rfl, _⟩ := hk
  clear hx
  go_wp2_with fail
  refine (askq_any _ _ _ _ _).mono ?_
  rintro e wb1 ⟨rfl, hx⟩
  have HXb1 := Lib.hid (Ext.trans HXa.out hx)
  have HSa11 := Lib.hid (HSa1.out.ext hx)
  clear hx
  go_wp2_with fail
  refine (ask_v _ [⟨1, 5, 2, 0, 8, 13, 0⟩] 10 ⟨2, 5, 1, 4, 12, 0, 0⟩ 1 _ HSa11.out (by simp) (by unfold LeWf; decide) (by omega)).mono ?_
  rintro e wb ⟨⟨vb, kb, Kb, r, rfl, hr, hs, hk, hwho⟩, hx⟩
  obtain rfl : r = ([⟨1, 5, 2, 0, 8, 13, 0⟩], false) := hr.trans (by kernel_rfl)
  obtain rfl : Kb = [1] := rising_one (by have h := hwho.out; unfold WhoIs at h; rw [if_neg (by decide)] at h; exact h)
  have HXb := Lib.hid (Ext.trans HXb1.out hx)
  have HSb2 := Lib.hid hs
  obtain ⟨pb, nb, cb, rfl, hrow, _⟩ := hs
  obtain rfl : 1 = nb := hrow.1
  clear hrow hwho hr
  have HSa2 := Lib.hid (HSa11.out.ext hx)
  have HSk2 := Lib.hid hk
  obtain ⟨pk, nk, ck, rfl, hrow, _⟩ := hk
  obtain rfl : 1 = nk := hrow.1
  clear hrow
  clear hx
  go_wp2_with fail
  refine (askq_any _ _ _ _ _).mono ?_
  rintro e wd1 ⟨rfl, hx⟩
  have HXd1 := Lib.hid (Ext.trans HXb.out hx)
  have HSa12 := Lib.hid (HSa2.out.ext hx)
  have HSk12 := Lib.hid (HSk2.out.ext hx)
  have HSb12 := Lib.hid (HSb2.out.ext hx)
  clear hx
  go_wp2_with fail
  refine (ask_v _ [⟨1, 5, 2, 0, 8, 13, 0⟩] 10 ⟨2, 5, 1, 8, 12, 0, 0⟩ 1 _ HSa12.out (by simp) (by unfold LeWf; decide) (by omega)).mono ?_
  rintro e wd ⟨⟨vd, kd, Kd, r, rfl, hr, hs, hk, hwho⟩, hx⟩
  obtain rfl : r = ([⟨1, 5, 2, 0, 8, 13, 0⟩, ⟨2, 5, 1, 8, 12, 13, 0⟩], true) := hr.trans (by kernel_rfl)
  have HXd := Lib.hid (Ext.trans HXd1.out hx)
  have HSd3 := Lib.hid hs
  obtain ⟨pd, nd, cd, rfl, hrow, _⟩ := hs
  obtain rfl : 2 = nd := hrow.1
  clear hrow hwho hr
  have HSa3 := Lib.hid (HSa12.out.ext hx)
  have HSk3 := Lib.hid (HSk12.out.ext hx)
  have HSb3 := Lib.hid (HSb12.out.ext hx)
  obtain ⟨pkd, nkd, ckd, rfl, _⟩ := hk
  clear hx
  go_wp2_with fail
  refine (askq_any _ _ _ _ _).mono ?_
  rintro e wf1 ⟨rfl, hx⟩
  have HXf1 := Lib.hid (Ext.trans HXd.out hx)
  have HSa13 := Lib.hid (HSa3.out.ext hx)
  have HSk13 := Lib.hid (HSk3.out.ext hx)
  have HSb13 := Lib.hid (HSb3.out.ext hx)
  have HSd13 := Lib.hid (HSd3.out.ext hx)
  clear hx
  go_wp2_with fail
  refine (ask_v _ [⟨1, 5, 2, 0, 8, 13, 0⟩] 13 ⟨2, 5, 2, 0, 8, 0, 0⟩ 1 _ HSa13.out (by simp) (by unfold LeWf; decide) (by omega)).mono ?_
  rintro e wf ⟨⟨vf, kf, Kf, r, rfl, hr, hs, hk, hwho⟩, hx⟩
  obtain rfl : r = ([⟨2, 5, 2, 0, 8, 16, 0⟩], true) := hr.trans (by kernel_rfl)
  have HXf := Lib.hid (Ext.trans HXf1.out hx)
  have HSf4 := Lib.hid hs
  obtain ⟨pf, nf, cf, rfl, hrow, _⟩ := hs
  obtain rfl : 1 = nf := hrow.1
  clear hrow hwho hr
  have HSa4 := Lib.hid (HSa13.out.ext hx)
  have HSk4 := Lib.hid (HSk13.out.ext hx)
  have HSb4 := Lib.hid (HSb13.out.ext hx)
  have HSd4 := Lib.hid (HSd13.out.ext hx)
  obtain ⟨pkf, nkf, ckf, rfl, _⟩ := hk
  clear hx
  go_wp2_with fail
  refine (askq_any _ _ _ _ _).mono ?_
  rintro e wh1 ⟨rfl, hx⟩
  have HXh1 := Lib.hid (Ext.trans HXf.out hx)
  have HSa14 := Lib.hid (HSa4.out.ext hx)
  have HSk14 := Lib.hid (HSk4.out.ext hx)
  have HSb14 := Lib.hid (HSb4.out.ext hx)
  have HSd14 := Lib.hid (HSd4.out.ext hx)
  have HSf14 := Lib.hid (HSf4.out.ext hx)
  clear hx
  go_wp2_with fail
  refine (ask_v _ [⟨1, 5, 2, 0, 8, 13, 0⟩] 12 ⟨1, 5, 2, 0, 8, 0, 0⟩ 2 _ HSa14.out (by simp) (by unfold LeWf; decide) (by omega)).mono ?_
  rintro e wh ⟨⟨vh, kh, Kh, r, rfl, hr, hs, hk, hwho⟩, hx⟩
  obtain rfl : r = ([⟨1, 5, 2, 0, 8, 16, 0⟩], true) := hr.trans (by kernel_rfl)
  have HXh := Lib.hid (Ext.trans HXh1.out hx)
  have HSh5 := Lib.hid hs
  obtain ⟨ph, nh, ch, rfl, hrow, _⟩ := hs
  obtain rfl : 1 = nh := hrow.1
  clear hrow hwho hr
  have HSa5 := Lib.hid (HSa14.out.ext hx)
  have HSk5 := Lib.hid (HSk14.out.ext hx)
  have HSb5 := Lib.hid (HSb14.out.ext hx)
  have HSd5 := Lib.hid (HSd14.out.ext hx)
  have HSf5 := Lib.hid (HSf14.out.ext hx)
  obtain ⟨pkh, nkh, ckh, rfl, _⟩ := hk
  clear hx
  obtain ⟨ba, oa, rfl⟩ := first_ptr HSa5.out
  obtain ⟨bd, od, rfl⟩ := first_ptr HSd5.out
  obtain ⟨bf, of, rfl⟩ := first_ptr HSf5.out
  obtain ⟨bh, oh, rfl⟩ := first_ptr HSh5.out
  obtain ⟨ga00, ga01, ga02, ga03, ga04, ga05, ga06⟩ := first_cells (HSa5.out.ext (Ext.refl _))
  go_wp2_with fail
  refine (rints_any pk (some ⟨wh.heap.size, 0, none⟩) 1 ck 1 1 [1] [1] _ ((sl_row HSk5.out).ints.1.ext (Ext.alloc _ _)) (Lay.Row.lit (E := Lay.int .i64) (Ext.refl _) (Lay.All.single ⟨rfl, by decide⟩) rfl rfl (by decide)).ints.1).mono ?_
  rintro e w11 ⟨rfl, hx⟩
  rw [decide_eq_true (rfl : ([1] : List Int) = [1])]
  have HX11 := Lib.hid (Ext.trans (Ext.alloc _ _) hx)
  clear hx
  clear ga00 ga01 ga02 ga03 ga04 ga05 ga06
  obtain ⟨gf10, gf11, gf12, gf13, gf14, gf15, gf16⟩ := first_cells (HSf5.out.ext HX11.out)
  obtain ⟨gh10, gh11, gh12, gh13, gh14, gh15, gh16⟩ := first_cells (HSh5.out.ext HX11.out)
  go_wp2_with fail
  refine (has_w _ [⟨1, 5, 2, 0, 8, 13, 0⟩, ⟨2, 5, 1, 8, 12, 13, 0⟩] 1 5 1 2 8 true _ (HSd5.out.ext HX11.out) (by simp) (by decide) (by decide) had_a).mono ?_
  rintro e w12 ⟨rfl, hx⟩
  have HX12 := Lib.hid (Ext.trans HX11.out hx)
  clear hx
  clear gf10 gf11 gf12 gf13 gf14 gf15 gf16 gh10 gh11 gh12 gh13 gh14 gh15 gh16
  go_wp2_with fail
  refine (has_w _ [⟨1, 5, 2, 0, 8, 13, 0⟩, ⟨2, 5, 1, 8, 12, 13, 0⟩] 2 5 2 8 9 false _ (HSd5.out.ext HX12.out) (by simp) (by decide) (by decide) had_b).mono ?_
  rintro e w13 ⟨rfl, hx⟩
  have HX13 := Lib.hid (Ext.trans HX12.out hx)
  clear hx
  go_wp2_with fail
  refine (has_w _ [⟨1, 5, 2, 0, 8, 13, 0⟩, ⟨2, 5, 1, 8, 12, 13, 0⟩] 1 5 2 2 9 false _ (HSd5.out.ext HX13.out) (by simp) (by decide) (by decide) had_c).mono ?_
  rintro e w14 ⟨rfl, hx⟩
  have HX14 := Lib.hid (Ext.trans HX13.out hx)
  clear hx
  go_wp2_with fail
  refine (back_v _ [⟨1, 5, 2, 0, 8, 13, 0⟩, ⟨2, 5, 1, 8, 12, 13, 0⟩] 1 5 _ (HSd5.out.ext HX14.out) (by simp)).mono ?_
  rintro e w15 ⟨⟨vB, rfl, hown⟩, hx⟩
  obtain ⟨pB, cB, hv, _⟩ := hown.opened
  rw [show (backL [⟨1, 5, 2, 0, 8, 13, 0⟩, ⟨2, 5, 1, 8, 12, 13, 0⟩] 1 5).length = 1 from by kernel_rfl] at hv
  subst hv
  have HX15 := Lib.hid (Ext.trans HX14.out hx)
  clear hx hown
  go_wp2_with fail
  refine (over_v _ [⟨1, 5, 2, 0, 8, 13, 0⟩, ⟨2, 5, 1, 8, 12, 13, 0⟩] 13 _ (HSd5.out.ext HX15.out) (by simp)).mono ?_
  rintro e w16 ⟨⟨vO, rfl, hown⟩, hx⟩
  obtain ⟨pO, cO, hv, _⟩ := hown.opened
  rw [show (overL [⟨1, 5, 2, 0, 8, 13, 0⟩, ⟨2, 5, 1, 8, 12, 13, 0⟩] 13).length = 0 from by kernel_rfl] at hv
  subst hv
  have HX16 := Lib.hid (Ext.trans HX15.out hx)
  clear hx hown
  go_wp2_with fail
  refine (right_v _ [⟨1, 5, 2, 0, 8, 13, 0⟩, ⟨2, 5, 1, 8, 12, 13, 0⟩] _ (HSd5.out.ext HX16.out) (by simp)).mono ?_
  rintro e w17 ⟨rfl, hx⟩
  rw [show rightB [⟨1, 5, 2, 0, 8, 13, 0⟩, ⟨2, 5, 1, 8, 12, 13, 0⟩] = true from by kernel_rfl]
  have HX17 := Lib.hid (Ext.trans HX16.out hx)
  clear hx
  have HOE : Hid (LLe.Own (w17.alloc (.cells #[] 26)) w17.heap.size 26 (.slice (some ⟨w17.heap.size, 0, none⟩) 0 0) []) := Lib.hid (plain_le.own_lit w17 #[] _ w17.heap.size 0 [] (Nat.le_refl _) rfl rfl (by decide))
  have HRD := Lib.hid (sl_row HSd5.out)
  have HDD : Hid ((2 ≤ cd ∧ cd ≤ 9223372036854775807) ∧ Pl (some ⟨bd, od, none⟩) cd) := Lib.hid (by
    obtain ⟨_, _, _, e, _, h1, h2, h3⟩ := HSd5.out
    cases e
    exact ⟨⟨h1, h2⟩, h3⟩)
  have HCD := Lib.hid HDD.out.1
  have HPL := Lib.hid HDD.out.2
  go_wp2_with (at_builtin; refine Lay.wpList_append (E := LLe) rfl (.tmp 149) (.tmp 150) 22 rfl w17.heap.size 26 i0 (.agg #[.int .i64 0, .int .i64 0, .int .i64 0, .int .i64 0, .int .i64 0, .int .i64 0, .int .i64 0]) 56 Try.underlying22 hi0 hzi0 hzi1 hzi2 rfl _ ([]) rfl (HOE.out) (some ⟨bd, od, none⟩) 2 cd ([⟨1, 5, 2, 0, 8, 13, 0⟩, ⟨2, 5, 1, 8, 12, 13, 0⟩]) rfl HPL.out HCD.out.1 (plain_le.row (HRD.out.ext (Ext.trans HX17.out (Ext.alloc _ _)))) (by decide) (by decide) (by simp) ?_; intro v18 w18 hown18 hg18; have X18 := Lib.hid (HOE.out.below (Ext.alloc _ _) (Nat.le_refl _) hg18); have HO18 : Hid (LLe.Own w18 w17.heap.size 26 v18 [⟨1, 5, 2, 0, 8, 13, 0⟩, ⟨2, 5, 1, 8, 12, 13, 0⟩]) := Lib.hid hown18; clear hown18 hg18)
  refine (askq_any _ _ _ _ _).mono ?_
  rintro e w19 ⟨rfl, hx⟩
  have HX19 := Lib.hid hx
  have HSZ : Hid (w17.heap.size ≤ (w19.alloc (.cells #[.int .i64 3, .int .i64 5, .int .i64 2, .int .i64 0, .int .i64 99, .int .i64 0, .int .i64 0] 26)).heap.size) := Lib.hid (by have h1 := X18.out.size; have h2 := hx.size; simp; omega)
  clear hx
  go_wp2_with (at_builtin; refine Lay.wpList_append (E := LLe) rfl (.tmp 151) (.tmp 153) 22 rfl w17.heap.size 26 i0 (.agg #[.int .i64 0, .int .i64 0, .int .i64 0, .int .i64 0, .int .i64 0, .int .i64 0, .int .i64 0]) 56 Try.underlying22 hi0 hzi0 hzi1 hzi2 rfl _ ([⟨1, 5, 2, 0, 8, 13, 0⟩, ⟨2, 5, 1, 8, 12, 13, 0⟩]) rfl ((HO18.out.ext (Ext.trans HX19.out (Ext.alloc _ _)))) (some ⟨w19.heap.size, 0, none⟩) 1 1 ([⟨3, 5, 2, 0, 99, 0, 0⟩]) rfl (fun _ => ⟨_, _, rfl⟩) (Nat.le_refl _) (plain_le.lit (Ext.refl _) (Lay.All.single ⟨rfl, by unfold LeWf; decide⟩) rfl rfl (by decide)) (by decide) (by decide) HSZ.out ?_; intro v20 w20 hown20 hg20; have X20 := Lib.hid ((HO18.out.ext (Ext.trans HX19.out (Ext.alloc _ _))).below (Ext.trans X18.out (Ext.trans HX19.out (Ext.alloc _ _))) (Nat.le_refl _) hg20); have HO20 : Hid (LLe.Own w20 w17.heap.size 26 v20 ([⟨1, 5, 2, 0, 8, 13, 0⟩, ⟨2, 5, 1, 8, 12, 13, 0⟩] ++ [⟨3, 5, 2, 0, 99, 0, 0⟩])) := Lib.hid hown20; clear hown20 hg20)
  refine (right_v _ ([⟨1, 5, 2, 0, 8, 13, 0⟩, ⟨2, 5, 1, 8, 12, 13, 0⟩] ++ [⟨3, 5, 2, 0, 99, 0, 0⟩]) _ HO20.out.sl (by simp)).mono ?_
  rintro e w21 ⟨rfl, hx⟩
  rw [show rightB ([⟨1, 5, 2, 0, 8, 13, 0⟩, ⟨2, 5, 1, 8, 12, 13, 0⟩] ++ [⟨3, 5, 2, 0, 99, 0, 0⟩]) = false from by kernel_rfl]
  have HX21 := Lib.hid (Ext.trans HXh.out (Ext.trans HX17.out (Ext.trans X20.out hx)))
  clear hx
  go_wp2
  go_ret
  exact ⟨rfl, HX21.out⟩
end Go.Proofs.Ytocnopgpdlfkjaa.Ls
