/- Spans: the statement SpanSize. -/
import Derived.Test.YtdpaagingfeoeaaSpanI
namespace Go.Proofs.Ytdpaagingfeoeaa.Sp
open Go.RowKit Go.Proofs.Ytdpaagingfeoeaa
set_option linter.unusedVariables false

theorem size_top {l : List Span} (h : Ordered l) : sizeL l ≤ 1099511627776 := by
  cases l with
  | nil => simp [sizeL]
  | cons s l =>
    have h1 := sizeL_le h.2.2.2 h.2.2.1
    have h2 := h.1
    simp only [sizeL, List.map_cons, List.sum_cons] at *
    omega

set_option maxRecDepth 100000 in
set_option maxHeartbeats 8000000 in
theorem size_walk {p0 : Option Addr} {n0 c0 : Nat} {l0 : List Span} {p1 : Option Addr} {n1 c1 : Nat} {l1 : List Span} {w : World} (h0 : LSpan.Row w p0 n0 l0) (f0 : n0 ≤ c0) (m0 : c0 ≤ 9223372036854775807) (g0 : Pl p0 c0) (h1 : LSpan.Row w p1 n1 l1) (f1 : n1 ≤ c1) (m1 : c1 ≤ 9223372036854775807) (g1 : Pl p1 c1) :
    Calls Try.prog 7 #[.slice p0 n0 c0, .slice p1 n1 c1] w fun e w' => e = .returned (.bool true) ∧ Ext w w' := by
  have HSx : Hid (LSpan.Sl w (.slice p0 n0 c0) l0) := Lib.hid ⟨p0, n0, c0, rfl, h0, f0, m0, g0⟩
  have HSy : Hid (LSpan.Sl w (.slice p1 n1 c1) l1) := Lib.hid ⟨p1, n1, c1, rfl, h1, f1, m1, g1⟩
  have HX : Hid (Ext w w) := Lib.hid (Ext.refl _)
  clear h0 g0 h1 g1
  go_enter Try.func7, Try.ntmps7
  go_wp2_with fail
  refine (head_any _).mono ?_
  rintro e W1 ⟨rfl, hxn⟩
  have hxx : Ext w W1 := Ext.trans (by (unfold Ext; repeat (first | exact Below.refl _ _ | assumption | refine Below.drew ?_ | refine below_drewN ?_ _ | refine Below.alloc ?_ (by first | exact Nat.le_refl _ | (simp; done) | (simp; omega) | omega) _ | refine Below.setCell ?_ (by first | exact Nat.le_refl _ | (simp; done) | (simp; omega) | omega) _))) hxn
  have HSx := Lib.hid (HSx.out.ext hxx)
  have HSy := Lib.hid (HSy.out.ext hxx)
  have HX := Lib.hid (Ext.trans HX.out hxx)
  clear hxn hxx
  go_wp2_with fail
  refine (few_v _ l0 _ (HSx.out.ext (by (unfold Ext; repeat (first | exact Below.refl _ _ | assumption | refine Below.drew ?_ | refine below_drewN ?_ _ | refine Below.alloc ?_ (by first | exact Nat.le_refl _ | (simp; done) | (simp; omega) | omega) _ | refine Below.setCell ?_ (by first | exact Nat.le_refl _ | (simp; done) | (simp; omega) | omega) _))))).mono ?_
  rintro e W2 ⟨⟨va, rfl, hown⟩, hxn⟩
  have hxx : Ext W1 W2 := Ext.trans (by (unfold Ext; repeat (first | exact Below.refl _ _ | assumption | refine Below.drew ?_ | refine below_drewN ?_ _ | refine Below.alloc ?_ (by first | exact Nat.le_refl _ | (simp; done) | (simp; omega) | omega) _ | refine Below.setCell ?_ (by first | exact Nat.le_refl _ | (simp; done) | (simp; omega) | omega) _))) hxn
  obtain ⟨La, hL⟩ : ∃ L, l0.take 40 = L := ⟨_, rfl⟩
  rw [hL] at hown
  have HSx := Lib.hid (HSx.out.ext hxx)
  have HSy := Lib.hid (HSy.out.ext hxx)
  have HX := Lib.hid (Ext.trans HX.out hxx)
  clear hxn hxx
  have HLa : Hid (La.length ≤ 40) := Lib.hid (by rw [← hL]; simp; omega)
  have HSa := Lib.hid hown.sl
  clear hown hL
  go_wp2_with fail
  refine (few_v _ l1 _ (HSy.out.ext (by (unfold Ext; repeat (first | exact Below.refl _ _ | assumption | refine Below.drew ?_ | refine below_drewN ?_ _ | refine Below.alloc ?_ (by first | exact Nat.le_refl _ | (simp; done) | (simp; omega) | omega) _ | refine Below.setCell ?_ (by first | exact Nat.le_refl _ | (simp; done) | (simp; omega) | omega) _))))).mono ?_
  rintro e W3 ⟨⟨vb, rfl, hown⟩, hxn⟩
  have hxx : Ext W2 W3 := Ext.trans (by (unfold Ext; repeat (first | exact Below.refl _ _ | assumption | refine Below.drew ?_ | refine below_drewN ?_ _ | refine Below.alloc ?_ (by first | exact Nat.le_refl _ | (simp; done) | (simp; omega) | omega) _ | refine Below.setCell ?_ (by first | exact Nat.le_refl _ | (simp; done) | (simp; omega) | omega) _))) hxn
  obtain ⟨Lb, hL⟩ : ∃ L, l1.take 40 = L := ⟨_, rfl⟩
  rw [hL] at hown
  have HSy := Lib.hid (HSy.out.ext hxx)
  have HSa := Lib.hid (HSa.out.ext hxx)
  have HX := Lib.hid (Ext.trans HX.out hxx)
  clear hxn hxx
  have HLb : Hid (Lb.length ≤ 40) := Lib.hid (by rw [← hL]; simp; omega)
  have HSb := Lib.hid hown.sl
  clear hown hL
  go_wp2_with fail
  refine (size_v _ La _ (HSa.out.ext (by (unfold Ext; repeat (first | exact Below.refl _ _ | assumption | refine Below.drew ?_ | refine below_drewN ?_ _ | refine Below.alloc ?_ (by first | exact Nat.le_refl _ | (simp; done) | (simp; omega) | omega) _ | refine Below.setCell ?_ (by first | exact Nat.le_refl _ | (simp; done) | (simp; omega) | omega) _)))) (by have h0 := HLa.out; omega)).mono ?_
  rintro e W4 ⟨rfl, hi, hxn⟩
  have hxx : Ext W3 W4 := Ext.trans (by (unfold Ext; repeat (first | exact Below.refl _ _ | assumption | refine Below.drew ?_ | refine below_drewN ?_ _ | refine Below.alloc ?_ (by first | exact Nat.le_refl _ | (simp; done) | (simp; omega) | omega) _ | refine Below.setCell ?_ (by first | exact Nat.le_refl _ | (simp; done) | (simp; omega) | omega) _))) hxn
  obtain ⟨L1, hL⟩ : ∃ L, ofL fOr La [] = L := ⟨_, rfl⟩
  rw [hL] at hi
  first | rw [hL] | skip
  obtain ⟨S1, hS⟩ : ∃ S, sizeL L1 = S := ⟨_, rfl⟩
  rw [hS]
  have HI1 := hi
  have HZ1 := Lib.hid hS
  have z1 : 0 ≤ S1 := by rw [← hS]; exact sizeL_nonneg hi.out.ord
  have y1 : S1 ≤ 1099511627777 := by rw [← hS]; have := sizeL_le hi.out.ord (by decide); omega
  clear hi hL hS
  have HSa := Lib.hid (HSa.out.ext hxx)
  have HSb := Lib.hid (HSb.out.ext hxx)
  have HX := Lib.hid (Ext.trans HX.out hxx)
  clear hxn hxx
  go_wp2_with fail
  refine (size_v _ Lb _ (HSb.out.ext (by (unfold Ext; repeat (first | exact Below.refl _ _ | assumption | refine Below.drew ?_ | refine below_drewN ?_ _ | refine Below.alloc ?_ (by first | exact Nat.le_refl _ | (simp; done) | (simp; omega) | omega) _ | refine Below.setCell ?_ (by first | exact Nat.le_refl _ | (simp; done) | (simp; omega) | omega) _)))) (by have h0 := HLb.out; omega)).mono ?_
  rintro e W5 ⟨rfl, hi, hxn⟩
  have hxx : Ext W4 W5 := Ext.trans (by (unfold Ext; repeat (first | exact Below.refl _ _ | assumption | refine Below.drew ?_ | refine below_drewN ?_ _ | refine Below.alloc ?_ (by first | exact Nat.le_refl _ | (simp; done) | (simp; omega) | omega) _ | refine Below.setCell ?_ (by first | exact Nat.le_refl _ | (simp; done) | (simp; omega) | omega) _))) hxn
  obtain ⟨L2, hL⟩ : ∃ L, ofL fOr Lb [] = L := ⟨_, rfl⟩
  rw [hL] at hi
  first | rw [hL] | skip
  obtain ⟨S2, hS⟩ : ∃ S, sizeL L2 = S := ⟨_, rfl⟩
  rw [hS]
  have HI2 := hi
  have HZ2 := Lib.hid hS
  have z2 : 0 ≤ S2 := by rw [← hS]; exact sizeL_nonneg hi.out.ord
  have y2 : S2 ≤ 1099511627777 := by rw [← hS]; have := sizeL_le hi.out.ord (by decide); omega
  clear hi hL hS
  have HSa := Lib.hid (HSa.out.ext hxx)
  have HSb := Lib.hid (HSb.out.ext hxx)
  have HX := Lib.hid (Ext.trans HX.out hxx)
  clear hxn hxx
  go_wp2_with fail
  refine (meet_v _ _ La Lb _ (HSa.out.ext (by (unfold Ext; repeat (first | exact Below.refl _ _ | assumption | refine Below.drew ?_ | refine below_drewN ?_ _ | refine Below.alloc ?_ (by first | exact Nat.le_refl _ | (simp; done) | (simp; omega) | omega) _ | refine Below.setCell ?_ (by first | exact Nat.le_refl _ | (simp; done) | (simp; omega) | omega) _)))) (HSb.out.ext (by (unfold Ext; repeat (first | exact Below.refl _ _ | assumption | refine Below.drew ?_ | refine below_drewN ?_ _ | refine Below.alloc ?_ (by first | exact Nat.le_refl _ | (simp; done) | (simp; omega) | omega) _ | refine Below.setCell ?_ (by first | exact Nat.le_refl _ | (simp; done) | (simp; omega) | omega) _)))) (by have h0 := HLa.out; have h1 := HLb.out; omega)).mono ?_
  rintro e W6 ⟨⟨vm, rfl, hown⟩, hi, hxn⟩
  have hxx : Ext W5 W6 := Ext.trans (by (unfold Ext; repeat (first | exact Below.refl _ _ | assumption | refine Below.drew ?_ | refine below_drewN ?_ _ | refine Below.alloc ?_ (by first | exact Nat.le_refl _ | (simp; done) | (simp; omega) | omega) _ | refine Below.setCell ?_ (by first | exact Nat.le_refl _ | (simp; done) | (simp; omega) | omega) _))) hxn
  obtain ⟨Lm, hL⟩ : ∃ L, ofL fAnd La Lb = L := ⟨_, rfl⟩
  rw [hL] at hown hi
  have HSa := Lib.hid (HSa.out.ext hxx)
  have HSb := Lib.hid (HSb.out.ext hxx)
  have HX := Lib.hid (Ext.trans HX.out hxx)
  clear hxn hxx
  have HSm := Lib.hid hown.sl
  have HIm := hi
  have HLm : Hid (Lm.length ≤ 161) := Lib.hid (by have h := hi.out.len; have h1 := HLa.out; have h2 := HLb.out; omega)
  clear hown hi hL
  go_wp2_with fail
  refine (size_v _ Lm _ (HSm.out.ext (by (unfold Ext; repeat (first | exact Below.refl _ _ | assumption | refine Below.drew ?_ | refine below_drewN ?_ _ | refine Below.alloc ?_ (by first | exact Nat.le_refl _ | (simp; done) | (simp; omega) | omega) _ | refine Below.setCell ?_ (by first | exact Nat.le_refl _ | (simp; done) | (simp; omega) | omega) _)))) (by have h0 := HLm.out; omega)).mono ?_
  rintro e W7 ⟨rfl, hi, hxn⟩
  have hxx : Ext W6 W7 := Ext.trans (by (unfold Ext; repeat (first | exact Below.refl _ _ | assumption | refine Below.drew ?_ | refine below_drewN ?_ _ | refine Below.alloc ?_ (by first | exact Nat.le_refl _ | (simp; done) | (simp; omega) | omega) _ | refine Below.setCell ?_ (by first | exact Nat.le_refl _ | (simp; done) | (simp; omega) | omega) _))) hxn
  obtain ⟨L3, hL⟩ : ∃ L, ofL fOr Lm [] = L := ⟨_, rfl⟩
  rw [hL] at hi
  first | rw [hL] | skip
  obtain ⟨S3, hS⟩ : ∃ S, sizeL L3 = S := ⟨_, rfl⟩
  rw [hS]
  have HI3 := hi
  have HZ3 := Lib.hid hS
  have z3 : 0 ≤ S3 := by rw [← hS]; exact sizeL_nonneg hi.out.ord
  have y3 : S3 ≤ 1099511627777 := by rw [← hS]; have := sizeL_le hi.out.ord (by decide); omega
  clear hi hL hS
  have HSa := Lib.hid (HSa.out.ext hxx)
  have HSb := Lib.hid (HSb.out.ext hxx)
  have HSm := Lib.hid (HSm.out.ext hxx)
  have HX := Lib.hid (Ext.trans HX.out hxx)
  clear hxn hxx
  go_wp2_with fail
  refine (norm_v _ La _ (HSa.out.ext (by (unfold Ext; repeat (first | exact Below.refl _ _ | assumption | refine Below.drew ?_ | refine below_drewN ?_ _ | refine Below.alloc ?_ (by first | exact Nat.le_refl _ | (simp; done) | (simp; omega) | omega) _ | refine Below.setCell ?_ (by first | exact Nat.le_refl _ | (simp; done) | (simp; omega) | omega) _)))) (by have h0 := HLa.out; omega)).mono ?_
  rintro e W8 ⟨⟨vl, rfl, hown⟩, hi, hxn⟩
  have hxx : Ext W7 W8 := Ext.trans (by (unfold Ext; repeat (first | exact Below.refl _ _ | assumption | refine Below.drew ?_ | refine below_drewN ?_ _ | refine Below.alloc ?_ (by first | exact Nat.le_refl _ | (simp; done) | (simp; omega) | omega) _ | refine Below.setCell ?_ (by first | exact Nat.le_refl _ | (simp; done) | (simp; omega) | omega) _))) hxn
  obtain ⟨Ll, hL⟩ : ∃ L, ofL fOr La [] = L := ⟨_, rfl⟩
  rw [hL] at hown hi
  have HSa := Lib.hid (HSa.out.ext hxx)
  have HSb := Lib.hid (HSb.out.ext hxx)
  have HSm := Lib.hid (HSm.out.ext hxx)
  have HX := Lib.hid (Ext.trans HX.out hxx)
  clear hxn hxx
  have HSl := Lib.hid hown.sl
  have HIl := hi
  have HLl : Hid (Ll.length ≤ 81) := Lib.hid (by have h := hi.out.len; have h1 := HLa.out; simp only [List.length_nil, Nat.add_zero] at h; omega)
  clear hown hi hL
  obtain ⟨pl, nl, cl, hvl, hrl, hncl, hcl, hpll⟩ := HSl.out
  subst hvl
  have HRl := Lib.hid hrl
  have HNl : Hid (Ll.length = nl) := Lib.hid hrl.1
  have hnl : nl ≤ 1000 := by have h1 := HLl.out; have h2 := hrl.1; omega
  clear hrl hpll
  go_wp2
  go_loopw [11, 13] (fun s i wr => SizR Ll W8 nl s i wr) (fun _ i _ => nl - (intOf i).toNat)
  case atStart => exact ⟨0, rfl, by omega, rfl, by (unfold Ext; repeat (first | exact Below.refl _ _ | assumption | refine Below.drew ?_ | refine below_drewN ?_ _ | refine Below.alloc ?_ (by first | exact Nat.le_refl _ | (simp; done) | (simp; omega) | omega) _ | refine Below.setCell ?_ (by first | exact Nat.le_refl _ | (simp; done) | (simp; omega) | omega) _))⟩
  case round =>
    obtain ⟨j, rfl, hj, rfl, hxr⟩ := hrel
    obtain ⟨b1, b2⟩ := sizeL_take_le HIl.out.ord j (by decide)
    by_cases hlt : j < nl
    · obtain ⟨s, gs⟩ := get_of Ll j (by rw [HNl.out]; exact hlt)
      obtain ⟨b, off, rfl, _, _, _, _⟩ := span_at (HRl.out.ext hxr) gs
      have HM := HIl.out.ord.mem s (List.mem_of_getElem? gs)
      have HT : Hid (sizeL (Ll.take (j + 1)) = sizeL (Ll.take j) + (s.2 - s.1)) := Lib.hid (by rw [take_snoc gs, sizeL_snoc])
      have HO1 : Hid (Ordered [s]) := Lib.hid ⟨HM.1, HM.2.1, HM.2.2, trivial⟩
      have HSP : Hid (LSpan.Sl wr (.slice (some ⟨b, off + j * 2, none⟩) 1 (cl - j)) [s]) := Lib.hid ⟨_, _, _, rfl, by
        have h9 := (HRl.out.ext hxr).sub j 1 (by omega)
        rw [List.drop_eq_getElem_cons (by rw [HNl.out]; exact hlt)] at h9
        have h8 : Ll[j]'(by rw [HNl.out]; exact hlt) = s := by have := (List.getElem?_eq_some_iff.1 gs).2; exact this
        rw [h8] at h9
        exact h9, by omega, by omega, fun _ => ⟨_, _, rfl⟩⟩
      have slm : ∀ w, (Instr.slice 22 (.slice (some ⟨b, off, none⟩) nl cl) (some (.int .i64 (j : Int))) (some (.int .i64 ((j : Int) + 1))) none).run Try.prog w = .ok (.slice (some ⟨b, off + j * 2, none⟩) 1 (cl - j)) w := fun w => by
        have h9 := run_cut Try.underlying22 span_size (some ⟨b, off, none⟩) nl cl j (j + 1) (j : Int) ((j : Int) + 1) rfl (by omega) (by omega) (by omega) w
        rw [show cutP (some ⟨b, off, none⟩) cl j LSpan.size = some ⟨b, off + j * 2, none⟩ from by unfold cutP; rw [if_neg (by omega), Option.map_some, addN]; rfl, show j + 1 - j = 1 by omega] at h9
        exact h9
      obtain ⟨q1, q2⟩ := sizeL_take_le HIl.out.ord (j + 1) (by decide)
      rw [HT.out] at q1 q2
      obtain ⟨m1, m2, m3⟩ := HM
      have HE : Hid (∀ L, IsOf fOr [s] [] L → sizeL L = s.2 - s.1) := Lib.hid (fun L h => by rw [ordered_self h HO1.out]; simp [sizeL])
      obtain ⟨D, hD⟩ : ∃ D, s.2 - s.1 = D := ⟨_, rfl⟩
      have HD := Lib.hid hD
      rw [hD] at q1 q2
      have hD0 : 0 ≤ D := by omega
      have hD1 : D ≤ 1099511627777 := by omega
      obtain ⟨T, hT⟩ : ∃ T, sizeL (Ll.take j) = T := ⟨_, rfl⟩
      rw [hT] at b1 b2 q1 q2 ⊢
      have HTT := Lib.hid hT
      have hlt' : (j : Int) < (nl : Int) := by omega
      clear gs hD hT m1 m2 m3
      go_wp2_with fail
      refine (size_v _ [s] wr HSP.out (by simp)).mono ?_
      rintro e w9 ⟨rfl, hi, hxn⟩
      rw [HE.out _ hi, HD.out]
      have hx9 := Ext.trans hxr hxn
      clear hi hxn slm
      go_wp2
      go_roundw
      case rel => exact ⟨j + 1, by go_num, by omega, by rw [HT.out, HD.out, HTT.out], hx9⟩
      case measure => simp [intOf]; omega
    · obtain rfl : j = nl := by omega
      have e0 : Ll.take j = Ll := List.take_of_length_le (by rw [HNl.out]; omega)
      rw [e0]
      clear e0 b1 b2
      have HEQ : Hid (L1 = Ll) := Lib.hid (HI1.out.eq HIl.out)
      have hss : sizeL Ll = S1 := by rw [← HEQ.out]; exact HZ1.out
      rw [hss]
      have d1 : decide (0 ≤ S1) = true := decide_eq_true z1
      have d2 : decide (S1 ≤ 1099511627776) = true := decide_eq_true (by rw [← HZ1.out]; exact size_top HI1.out.ord)
      have d3 : (S1 == S1) = true := by simp
      obtain ⟨qz, hqz⟩ : ∃ qz, (S1 == 0) = qz := ⟨_, rfl⟩
      have d4 : ((j : Int) == 0) = qz := by
        rw [← hqz, Bool.eq_iff_iff]
        have h7 := size_zero HI1.out.ord
        rw [HZ1.out] at h7
        have h8 : L1 = [] ↔ j = 0 := by rw [HEQ.out, ← HNl.out]; exact List.length_eq_zero_iff.symm
        simp only [beq_iff_eq]
        rw [h7, h8]; omega
      have d5 : (qz == qz) = true := by simp
      have HB3 : Hid (L3 = Lm) := Lib.hid (ordered_self HI3.out HIm.out.ord)
      clear hss
      have hxx : Ext W8 wr := hxr
      have hxn : True := trivial
      have HSa := Lib.hid (HSa.out.ext hxx)
      have HSb := Lib.hid (HSb.out.ext hxx)
      have HSm := Lib.hid (HSm.out.ext hxx)
      have HSl := Lib.hid (HSl.out.ext hxx)
      have HX := Lib.hid (Ext.trans HX.out hxx)
      clear hxn hxx
      go_wp2_with fail
      refine (cut_v _ _ La Lb _ (HSa.out.ext (by (unfold Ext; repeat (first | exact Below.refl _ _ | assumption | refine Below.drew ?_ | refine below_drewN ?_ _ | refine Below.alloc ?_ (by first | exact Nat.le_refl _ | (simp; done) | (simp; omega) | omega) _ | refine Below.setCell ?_ (by first | exact Nat.le_refl _ | (simp; done) | (simp; omega) | omega) _)))) (HSb.out.ext (by (unfold Ext; repeat (first | exact Below.refl _ _ | assumption | refine Below.drew ?_ | refine below_drewN ?_ _ | refine Below.alloc ?_ (by first | exact Nat.le_refl _ | (simp; done) | (simp; omega) | omega) _ | refine Below.setCell ?_ (by first | exact Nat.le_refl _ | (simp; done) | (simp; omega) | omega) _)))) (by have h0 := HLa.out; have h1 := HLb.out; omega)).mono ?_
      rintro e W51 ⟨⟨vc, rfl, hown⟩, hi, hxn⟩
      have hxx : Ext wr W51 := Ext.trans (by (unfold Ext; repeat (first | exact Below.refl _ _ | assumption | refine Below.drew ?_ | refine below_drewN ?_ _ | refine Below.alloc ?_ (by first | exact Nat.le_refl _ | (simp; done) | (simp; omega) | omega) _ | refine Below.setCell ?_ (by first | exact Nat.le_refl _ | (simp; done) | (simp; omega) | omega) _))) hxn
      obtain ⟨Lc, hL⟩ : ∃ L, ofL fCut La Lb = L := ⟨_, rfl⟩
      rw [hL] at hown hi
      have HSa := Lib.hid (HSa.out.ext hxx)
      have HSb := Lib.hid (HSb.out.ext hxx)
      have HSm := Lib.hid (HSm.out.ext hxx)
      have HSl := Lib.hid (HSl.out.ext hxx)
      have HX := Lib.hid (Ext.trans HX.out hxx)
      clear hxn hxx
      have HSc := Lib.hid hown.sl
      have HIc := hi
      have HLc : Hid (Lc.length ≤ 161) := Lib.hid (by have h := hi.out.len; have h1 := HLa.out; have h2 := HLb.out; omega)
      clear hown hi hL
      go_wp2_with fail
      refine (size_v _ Lc _ (HSc.out.ext (by (unfold Ext; repeat (first | exact Below.refl _ _ | assumption | refine Below.drew ?_ | refine below_drewN ?_ _ | refine Below.alloc ?_ (by first | exact Nat.le_refl _ | (simp; done) | (simp; omega) | omega) _ | refine Below.setCell ?_ (by first | exact Nat.le_refl _ | (simp; done) | (simp; omega) | omega) _)))) (by have h0 := HLc.out; omega)).mono ?_
      rintro e W52 ⟨rfl, hi, hxn⟩
      have hxx : Ext W51 W52 := Ext.trans (by (unfold Ext; repeat (first | exact Below.refl _ _ | assumption | refine Below.drew ?_ | refine below_drewN ?_ _ | refine Below.alloc ?_ (by first | exact Nat.le_refl _ | (simp; done) | (simp; omega) | omega) _ | refine Below.setCell ?_ (by first | exact Nat.le_refl _ | (simp; done) | (simp; omega) | omega) _))) hxn
      obtain ⟨L4, hL⟩ : ∃ L, ofL fOr Lc [] = L := ⟨_, rfl⟩
      rw [hL] at hi
      first | rw [hL] | skip
      obtain ⟨S4, hS⟩ : ∃ S, sizeL L4 = S := ⟨_, rfl⟩
      rw [hS]
      have HI4 := hi
      have HZ4 := Lib.hid hS
      have z4 : 0 ≤ S4 := by rw [← hS]; exact sizeL_nonneg hi.out.ord
      have y4 : S4 ≤ 1099511627777 := by rw [← hS]; have := sizeL_le hi.out.ord (by decide); omega
      clear hi hL hS
      have HSa := Lib.hid (HSa.out.ext hxx)
      have HSb := Lib.hid (HSb.out.ext hxx)
      have HSm := Lib.hid (HSm.out.ext hxx)
      have HSl := Lib.hid (HSl.out.ext hxx)
      have HSc := Lib.hid (HSc.out.ext hxx)
      have HX := Lib.hid (Ext.trans HX.out hxx)
      clear hxn hxx
      have e4 : ((S4 + S3) == S1) = true := by
        have h6 := size_cut HI1.out.ord (fun t => by rw [HI1.out.set, hasB_nil]; unfold fOr; simp) HIc.out HIm.out
        rw [← HB3.out, HZ3.out, HZ1.out, ← ordered_self HI4.out HIc.out.ord, HZ4.out] at h6
        simp [h6]
      go_wp2_with fail
      refine (add_v _ _ La Lb _ (HSa.out.ext (by (unfold Ext; repeat (first | exact Below.refl _ _ | assumption | refine Below.drew ?_ | refine below_drewN ?_ _ | refine Below.alloc ?_ (by first | exact Nat.le_refl _ | (simp; done) | (simp; omega) | omega) _ | refine Below.setCell ?_ (by first | exact Nat.le_refl _ | (simp; done) | (simp; omega) | omega) _)))) (HSb.out.ext (by (unfold Ext; repeat (first | exact Below.refl _ _ | assumption | refine Below.drew ?_ | refine below_drewN ?_ _ | refine Below.alloc ?_ (by first | exact Nat.le_refl _ | (simp; done) | (simp; omega) | omega) _ | refine Below.setCell ?_ (by first | exact Nat.le_refl _ | (simp; done) | (simp; omega) | omega) _)))) (by have h0 := HLa.out; have h1 := HLb.out; omega)).mono ?_
      rintro e W53 ⟨⟨vd, rfl, hown⟩, hi, hxn⟩
      have hxx : Ext W52 W53 := Ext.trans (by (unfold Ext; repeat (first | exact Below.refl _ _ | assumption | refine Below.drew ?_ | refine below_drewN ?_ _ | refine Below.alloc ?_ (by first | exact Nat.le_refl _ | (simp; done) | (simp; omega) | omega) _ | refine Below.setCell ?_ (by first | exact Nat.le_refl _ | (simp; done) | (simp; omega) | omega) _))) hxn
      obtain ⟨Ld, hL⟩ : ∃ L, ofL fOr La Lb = L := ⟨_, rfl⟩
      rw [hL] at hown hi
      have HSa := Lib.hid (HSa.out.ext hxx)
      have HSb := Lib.hid (HSb.out.ext hxx)
      have HSm := Lib.hid (HSm.out.ext hxx)
      have HSl := Lib.hid (HSl.out.ext hxx)
      have HSc := Lib.hid (HSc.out.ext hxx)
      have HX := Lib.hid (Ext.trans HX.out hxx)
      clear hxn hxx
      have HSd := Lib.hid hown.sl
      have HId := hi
      have HLd : Hid (Ld.length ≤ 161) := Lib.hid (by have h := hi.out.len; have h1 := HLa.out; have h2 := HLb.out; omega)
      clear hown hi hL
      go_wp2_with fail
      refine (size_v _ Ld _ (HSd.out.ext (by (unfold Ext; repeat (first | exact Below.refl _ _ | assumption | refine Below.drew ?_ | refine below_drewN ?_ _ | refine Below.alloc ?_ (by first | exact Nat.le_refl _ | (simp; done) | (simp; omega) | omega) _ | refine Below.setCell ?_ (by first | exact Nat.le_refl _ | (simp; done) | (simp; omega) | omega) _)))) (by have h0 := HLd.out; omega)).mono ?_
      rintro e W54 ⟨rfl, hi, hxn⟩
      have hxx : Ext W53 W54 := Ext.trans (by (unfold Ext; repeat (first | exact Below.refl _ _ | assumption | refine Below.drew ?_ | refine below_drewN ?_ _ | refine Below.alloc ?_ (by first | exact Nat.le_refl _ | (simp; done) | (simp; omega) | omega) _ | refine Below.setCell ?_ (by first | exact Nat.le_refl _ | (simp; done) | (simp; omega) | omega) _))) hxn
      obtain ⟨L5, hL⟩ : ∃ L, ofL fOr Ld [] = L := ⟨_, rfl⟩
      rw [hL] at hi
      first | rw [hL] | skip
      obtain ⟨S5, hS⟩ : ∃ S, sizeL L5 = S := ⟨_, rfl⟩
      rw [hS]
      have HI5 := hi
      have HZ5 := Lib.hid hS
      have z5 : 0 ≤ S5 := by rw [← hS]; exact sizeL_nonneg hi.out.ord
      have y5 : S5 ≤ 1099511627777 := by rw [← hS]; have := sizeL_le hi.out.ord (by decide); omega
      clear hi hL hS
      have HSa := Lib.hid (HSa.out.ext hxx)
      have HSb := Lib.hid (HSb.out.ext hxx)
      have HSm := Lib.hid (HSm.out.ext hxx)
      have HSl := Lib.hid (HSl.out.ext hxx)
      have HSc := Lib.hid (HSc.out.ext hxx)
      have HSd := Lib.hid (HSd.out.ext hxx)
      have HX := Lib.hid (Ext.trans HX.out hxx)
      clear hxn hxx
      have e5 : ((S5 + S3) == (S1 + S2)) = true := by
        have h6 := size_add HI1.out.ord (fun t => by rw [HI1.out.set, hasB_nil]; unfold fOr; simp) HI2.out.ord (fun t => by rw [HI2.out.set, hasB_nil]; unfold fOr; simp) HId.out HIm.out
        rw [← HB3.out, HZ3.out, HZ1.out, HZ2.out, ← ordered_self HI5.out HId.out.ord, HZ5.out] at h6
        simp [h6]
      go_wp2
      go_ret
      exact ⟨rfl, Ext.trans HX.out (by (unfold Ext; repeat (first | exact Below.refl _ _ | assumption | refine Below.drew ?_ | refine below_drewN ?_ _ | refine Below.alloc ?_ (by first | exact Nat.le_refl _ | (simp; done) | (simp; omega) | omega) _ | refine Below.setCell ?_ (by first | exact Nat.le_refl _ | (simp; done) | (simp; omega) | omega) _)))⟩
end Go.Proofs.Ytdpaagingfeoeaa.Sp
