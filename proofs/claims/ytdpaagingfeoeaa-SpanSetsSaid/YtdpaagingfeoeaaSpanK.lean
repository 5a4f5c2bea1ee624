/- Spans: the statement SpanSets. -/
import Derived.Test.YtdpaagingfeoeaaSpanI
namespace Go.Proofs.Ytdpaagingfeoeaa.Sp
open Go.RowKit Go.Proofs.Ytdpaagingfeoeaa
set_option linter.unusedVariables false

set_option maxRecDepth 100000 in
set_option maxHeartbeats 8000000 in
theorem sets_walk {p0 : Option Addr} {n0 c0 : Nat} {l0 : List Span} {p1 : Option Addr} {n1 c1 : Nat} {l1 : List Span} {p2 : Option Addr} {n2 c2 : Nat} {l2 : List Span} {w : World} (h0 : LSpan.Row w p0 n0 l0) (f0 : n0 ≤ c0) (m0 : c0 ≤ 9223372036854775807) (g0 : Pl p0 c0) (h1 : LSpan.Row w p1 n1 l1) (f1 : n1 ≤ c1) (m1 : c1 ≤ 9223372036854775807) (g1 : Pl p1 c1) (h2 : LSpan.Row w p2 n2 l2) (f2 : n2 ≤ c2) (m2 : c2 ≤ 9223372036854775807) (g2 : Pl p2 c2) :
    Calls Try.prog 6 #[.slice p0 n0 c0, .slice p1 n1 c1, .slice p2 n2 c2] w fun e w' => e = .returned (.bool true) ∧ Ext w w' := by
  have HSx : Hid (LSpan.Sl w (.slice p0 n0 c0) l0) := Lib.hid ⟨p0, n0, c0, rfl, h0, f0, m0, g0⟩
  have HSy : Hid (LSpan.Sl w (.slice p1 n1 c1) l1) := Lib.hid ⟨p1, n1, c1, rfl, h1, f1, m1, g1⟩
  have HSz : Hid (LSpan.Sl w (.slice p2 n2 c2) l2) := Lib.hid ⟨p2, n2, c2, rfl, h2, f2, m2, g2⟩
  have HX : Hid (Ext w w) := Lib.hid (Ext.refl _)
  clear h0 g0 h1 g1 h2 g2
  go_enter Try.func6, Try.ntmps6
  go_wp2_with fail
  refine (head_any _).mono ?_
  rintro e W1 ⟨rfl, hxn⟩
  have hxx : Ext w W1 := Ext.trans (by (unfold Ext; repeat (first | exact Below.refl _ _ | assumption | refine Below.drew ?_ | refine below_drewN ?_ _ | refine Below.alloc ?_ (by first | exact Nat.le_refl _ | (simp; done) | (simp; omega) | omega) _ | refine Below.setCell ?_ (by first | exact Nat.le_refl _ | (simp; done) | (simp; omega) | omega) _))) hxn
  have HSx := Lib.hid (HSx.out.ext hxx)
  have HSy := Lib.hid (HSy.out.ext hxx)
  have HSz := Lib.hid (HSz.out.ext hxx)
  have HX := Lib.hid (Ext.trans HX.out hxx)
  clear hxn hxx
  go_wp2_with fail
  refine (few_v _ l0 _ (HSx.out.ext (by (unfold Ext; repeat (first | exact Below.refl _ _ | assumption | refine Below.drew ?_ | refine below_drewN ?_ _ | refine Below.alloc ?_ (by first | exact Nat.le_refl _ | (simp; done) | (simp; omega) | omega) _ | refine Below.setCell ?_ (by first | exact Nat.le_refl _ | (simp; done) | (simp; omega) | omega) _))))).mono ?_
  rintro e W2 ⟨⟨va, rfl, hown⟩, hxn⟩
  have hxx : Ext W1 W2 := Ext.trans (by (unfold Ext; repeat (first | exact Below.refl _ _ | assumption | refine Below.drew ?_ | refine below_drewN ?_ _ | refine Below.alloc ?_ (by first | exact Nat.le_refl _ | (simp; done) | (simp; omega) | omega) _ | refine Below.setCell ?_ (by first | exact Nat.le_refl _ | (simp; done) | (simp; omega) | omega) _))) hxn
  obtain ⟨La, hL⟩ : ∃ L, l0.take 40 = L := ⟨_, rfl⟩
  rw [hL] at hown
  have HSx := Lib.hid (HSx.out.ext hxx)
  have HSy := Lib.hid (HSy.out.ext hxx)
  have HSz := Lib.hid (HSz.out.ext hxx)
  have HX := Lib.hid (Ext.trans HX.out hxx)
  clear hxn hxx
  have HLa : Hid (La.length ≤ 40) := Lib.hid (by rw [← hL]; simp; omega)
  have HSa := Lib.hid hown.sl
  clear hown hL
  go_wp2_with fail
  refine (few_v _ l1 _ (HSy.out.ext (by (unfold Ext; repeat (first | exact Below.refl _ _ | assumption | refine Below.drew ?_ | refine below_drewN ?_ _ | refine Below.alloc ?_ (by first | exact Nat.le_refl _ | (simp; done) | (simp; omega) | omega) _ | refine Below.setCell ?_ (by first | exact Nat.le_refl _ | (simp; done) | (simp; omega) | omega) _))))).mono ?_
  rintro e W3 ⟨⟨vb, rfl, hown⟩, hxn⟩
  have hxx : Ext W2 W3 := Ext.trans (by (unfold Ext; repeat (first | exact Below.refl _ _ | assumption | refine Below.drew ?_ | refine below_drewN ?_ _ | refine Below.alloc ?_ (by first | exact Nat.le_refl _ | (simp; done) | (simp; omega) | omega) _ | refine Below.setCell ?_ (by first | exact Nat.le_refl _ | (simp; done) | (simp; omega) | omega) _))) hxn
  obtain ⟨Lb, hL⟩ : ∃ L, l1.take 40 = L := ⟨_, rfl⟩
  rw [hL] at hown
  have HSy := Lib.hid (HSy.out.ext hxx)
  have HSz := Lib.hid (HSz.out.ext hxx)
  have HSa := Lib.hid (HSa.out.ext hxx)
  have HX := Lib.hid (Ext.trans HX.out hxx)
  clear hxn hxx
  have HLb : Hid (Lb.length ≤ 40) := Lib.hid (by rw [← hL]; simp; omega)
  have HSb := Lib.hid hown.sl
  clear hown hL
  go_wp2_with fail
  refine (few_v _ l2 _ (HSz.out.ext (by (unfold Ext; repeat (first | exact Below.refl _ _ | assumption | refine Below.drew ?_ | refine below_drewN ?_ _ | refine Below.alloc ?_ (by first | exact Nat.le_refl _ | (simp; done) | (simp; omega) | omega) _ | refine Below.setCell ?_ (by first | exact Nat.le_refl _ | (simp; done) | (simp; omega) | omega) _))))).mono ?_
  rintro e W4 ⟨⟨vc, rfl, hown⟩, hxn⟩
  have hxx : Ext W3 W4 := Ext.trans (by (unfold Ext; repeat (first | exact Below.refl _ _ | assumption | refine Below.drew ?_ | refine below_drewN ?_ _ | refine Below.alloc ?_ (by first | exact Nat.le_refl _ | (simp; done) | (simp; omega) | omega) _ | refine Below.setCell ?_ (by first | exact Nat.le_refl _ | (simp; done) | (simp; omega) | omega) _))) hxn
  obtain ⟨Lc, hL⟩ : ∃ L, l2.take 40 = L := ⟨_, rfl⟩
  rw [hL] at hown
  have HSz := Lib.hid (HSz.out.ext hxx)
  have HSa := Lib.hid (HSa.out.ext hxx)
  have HSb := Lib.hid (HSb.out.ext hxx)
  have HX := Lib.hid (Ext.trans HX.out hxx)
  clear hxn hxx
  have HLc : Hid (Lc.length ≤ 40) := Lib.hid (by rw [← hL]; simp; omega)
  have HSc := Lib.hid hown.sl
  clear hown hL
  go_wp2_with fail
  refine (cut_v _ _ La Lb _ (HSa.out.ext (by (unfold Ext; repeat (first | exact Below.refl _ _ | assumption | refine Below.drew ?_ | refine below_drewN ?_ _ | refine Below.alloc ?_ (by first | exact Nat.le_refl _ | (simp; done) | (simp; omega) | omega) _ | refine Below.setCell ?_ (by first | exact Nat.le_refl _ | (simp; done) | (simp; omega) | omega) _)))) (HSb.out.ext (by (unfold Ext; repeat (first | exact Below.refl _ _ | assumption | refine Below.drew ?_ | refine below_drewN ?_ _ | refine Below.alloc ?_ (by first | exact Nat.le_refl _ | (simp; done) | (simp; omega) | omega) _ | refine Below.setCell ?_ (by first | exact Nat.le_refl _ | (simp; done) | (simp; omega) | omega) _)))) (by have h0 := HLa.out; have h1 := HLb.out; omega)).mono ?_
  rintro e W5 ⟨⟨v1, rfl, hown⟩, hi, hxn⟩
  have hxx : Ext W4 W5 := Ext.trans (by (unfold Ext; repeat (first | exact Below.refl _ _ | assumption | refine Below.drew ?_ | refine below_drewN ?_ _ | refine Below.alloc ?_ (by first | exact Nat.le_refl _ | (simp; done) | (simp; omega) | omega) _ | refine Below.setCell ?_ (by first | exact Nat.le_refl _ | (simp; done) | (simp; omega) | omega) _))) hxn
  obtain ⟨L1, hL⟩ : ∃ L, ofL fCut La Lb = L := ⟨_, rfl⟩
  rw [hL] at hown hi
  have HSa := Lib.hid (HSa.out.ext hxx)
  have HSb := Lib.hid (HSb.out.ext hxx)
  have HSc := Lib.hid (HSc.out.ext hxx)
  have HX := Lib.hid (Ext.trans HX.out hxx)
  clear hxn hxx
  have HS1 := Lib.hid hown.sl
  have HI1 := hi
  have HL1 : Hid (L1.length ≤ 161) := Lib.hid (by have h := hi.out.len; have h1 := HLa.out; have h2 := HLb.out; omega)
  clear hown hi hL
  go_wp2_with fail
  refine (meet_v _ _ La Lb _ (HSa.out.ext (by (unfold Ext; repeat (first | exact Below.refl _ _ | assumption | refine Below.drew ?_ | refine below_drewN ?_ _ | refine Below.alloc ?_ (by first | exact Nat.le_refl _ | (simp; done) | (simp; omega) | omega) _ | refine Below.setCell ?_ (by first | exact Nat.le_refl _ | (simp; done) | (simp; omega) | omega) _)))) (HSb.out.ext (by (unfold Ext; repeat (first | exact Below.refl _ _ | assumption | refine Below.drew ?_ | refine below_drewN ?_ _ | refine Below.alloc ?_ (by first | exact Nat.le_refl _ | (simp; done) | (simp; omega) | omega) _ | refine Below.setCell ?_ (by first | exact Nat.le_refl _ | (simp; done) | (simp; omega) | omega) _)))) (by have h0 := HLa.out; have h1 := HLb.out; omega)).mono ?_
  rintro e W6 ⟨⟨v2, rfl, hown⟩, hi, hxn⟩
  have hxx : Ext W5 W6 := Ext.trans (by (unfold Ext; repeat (first | exact Below.refl _ _ | assumption | refine Below.drew ?_ | refine below_drewN ?_ _ | refine Below.alloc ?_ (by first | exact Nat.le_refl _ | (simp; done) | (simp; omega) | omega) _ | refine Below.setCell ?_ (by first | exact Nat.le_refl _ | (simp; done) | (simp; omega) | omega) _))) hxn
  obtain ⟨L2, hL⟩ : ∃ L, ofL fAnd La Lb = L := ⟨_, rfl⟩
  rw [hL] at hown hi
  have HSa := Lib.hid (HSa.out.ext hxx)
  have HSb := Lib.hid (HSb.out.ext hxx)
  have HSc := Lib.hid (HSc.out.ext hxx)
  have HS1 := Lib.hid (HS1.out.ext hxx)
  have HX := Lib.hid (Ext.trans HX.out hxx)
  clear hxn hxx
  have HS2 := Lib.hid hown.sl
  have HI2 := hi
  have HL2 : Hid (L2.length ≤ 161) := Lib.hid (by have h := hi.out.len; have h1 := HLa.out; have h2 := HLb.out; omega)
  clear hown hi hL
  go_wp2_with fail
  refine (meet_v _ _ L1 L2 _ (HS1.out.ext (by (unfold Ext; repeat (first | exact Below.refl _ _ | assumption | refine Below.drew ?_ | refine below_drewN ?_ _ | refine Below.alloc ?_ (by first | exact Nat.le_refl _ | (simp; done) | (simp; omega) | omega) _ | refine Below.setCell ?_ (by first | exact Nat.le_refl _ | (simp; done) | (simp; omega) | omega) _)))) (HS2.out.ext (by (unfold Ext; repeat (first | exact Below.refl _ _ | assumption | refine Below.drew ?_ | refine below_drewN ?_ _ | refine Below.alloc ?_ (by first | exact Nat.le_refl _ | (simp; done) | (simp; omega) | omega) _ | refine Below.setCell ?_ (by first | exact Nat.le_refl _ | (simp; done) | (simp; omega) | omega) _)))) (by have h0 := HL1.out; have h1 := HL2.out; omega)).mono ?_
  rintro e W7 ⟨⟨v3, rfl, hown⟩, hi, hxn⟩
  have hxx : Ext W6 W7 := Ext.trans (by (unfold Ext; repeat (first | exact Below.refl _ _ | assumption | refine Below.drew ?_ | refine below_drewN ?_ _ | refine Below.alloc ?_ (by first | exact Nat.le_refl _ | (simp; done) | (simp; omega) | omega) _ | refine Below.setCell ?_ (by first | exact Nat.le_refl _ | (simp; done) | (simp; omega) | omega) _))) hxn
  obtain ⟨L3, hL⟩ : ∃ L, ofL fAnd L1 L2 = L := ⟨_, rfl⟩
  rw [hL] at hown hi
  have HSa := Lib.hid (HSa.out.ext hxx)
  have HSb := Lib.hid (HSb.out.ext hxx)
  have HSc := Lib.hid (HSc.out.ext hxx)
  have HS1 := Lib.hid (HS1.out.ext hxx)
  have HS2 := Lib.hid (HS2.out.ext hxx)
  have HX := Lib.hid (Ext.trans HX.out hxx)
  clear hxn hxx
  have HS3 := Lib.hid hown.sl
  have HI3 := hi
  have HL3 : Hid (L3.length ≤ 645) := Lib.hid (by have h := hi.out.len; have h1 := HL1.out; have h2 := HL2.out; omega)
  clear hown hi hL
  obtain ⟨p3, n3, c3, hv, hr3, _⟩ := HS3.out
  subst hv
  have HN3 : Hid (L3.length = n3) := Lib.hid hr3.1
  clear hr3
  obtain rfl : n3 = 0 := by rw [← HN3.out, show L3 = [] from ordered_uniq HI3.out.ord trivial (fun t => by simp only [HI3.out.set t, HI1.out.set t, HI2.out.set t, fAnd, fCut, hasB_nil] <;> (cases hasB La t <;> cases hasB Lb t <;> rfl))]; rfl
  go_wp2_with fail
  refine (add_v _ _ L1 L2 _ (HS1.out.ext (by (unfold Ext; repeat (first | exact Below.refl _ _ | assumption | refine Below.drew ?_ | refine below_drewN ?_ _ | refine Below.alloc ?_ (by first | exact Nat.le_refl _ | (simp; done) | (simp; omega) | omega) _ | refine Below.setCell ?_ (by first | exact Nat.le_refl _ | (simp; done) | (simp; omega) | omega) _)))) (HS2.out.ext (by (unfold Ext; repeat (first | exact Below.refl _ _ | assumption | refine Below.drew ?_ | refine below_drewN ?_ _ | refine Below.alloc ?_ (by first | exact Nat.le_refl _ | (simp; done) | (simp; omega) | omega) _ | refine Below.setCell ?_ (by first | exact Nat.le_refl _ | (simp; done) | (simp; omega) | omega) _)))) (by have h0 := HL1.out; have h1 := HL2.out; omega)).mono ?_
  rintro e W8 ⟨⟨v4, rfl, hown⟩, hi, hxn⟩
  have hxx : Ext W7 W8 := Ext.trans (by (unfold Ext; repeat (first | exact Below.refl _ _ | assumption | refine Below.drew ?_ | refine below_drewN ?_ _ | refine Below.alloc ?_ (by first | exact Nat.le_refl _ | (simp; done) | (simp; omega) | omega) _ | refine Below.setCell ?_ (by first | exact Nat.le_refl _ | (simp; done) | (simp; omega) | omega) _))) hxn
  obtain ⟨L4, hL⟩ : ∃ L, ofL fOr L1 L2 = L := ⟨_, rfl⟩
  rw [hL] at hown hi
  have HSa := Lib.hid (HSa.out.ext hxx)
  have HSb := Lib.hid (HSb.out.ext hxx)
  have HSc := Lib.hid (HSc.out.ext hxx)
  have HS1 := Lib.hid (HS1.out.ext hxx)
  have HS2 := Lib.hid (HS2.out.ext hxx)
  have HS3 := Lib.hid (HS3.out.ext hxx)
  have HX := Lib.hid (Ext.trans HX.out hxx)
  clear hxn hxx
  have HS4 := Lib.hid hown.sl
  have HI4 := hi
  have HL4 : Hid (L4.length ≤ 645) := Lib.hid (by have h := hi.out.len; have h1 := HL1.out; have h2 := HL2.out; omega)
  clear hown hi hL
  go_wp2_with fail
  refine (norm_v _ La _ (HSa.out.ext (by (unfold Ext; repeat (first | exact Below.refl _ _ | assumption | refine Below.drew ?_ | refine below_drewN ?_ _ | refine Below.alloc ?_ (by first | exact Nat.le_refl _ | (simp; done) | (simp; omega) | omega) _ | refine Below.setCell ?_ (by first | exact Nat.le_refl _ | (simp; done) | (simp; omega) | omega) _)))) (by have h0 := HLa.out; omega)).mono ?_
  rintro e W9 ⟨⟨v5, rfl, hown⟩, hi, hxn⟩
  have hxx : Ext W8 W9 := Ext.trans (by (unfold Ext; repeat (first | exact Below.refl _ _ | assumption | refine Below.drew ?_ | refine below_drewN ?_ _ | refine Below.alloc ?_ (by first | exact Nat.le_refl _ | (simp; done) | (simp; omega) | omega) _ | refine Below.setCell ?_ (by first | exact Nat.le_refl _ | (simp; done) | (simp; omega) | omega) _))) hxn
  obtain ⟨L5, hL⟩ : ∃ L, ofL fOr La [] = L := ⟨_, rfl⟩
  rw [hL] at hown hi
  have HSa := Lib.hid (HSa.out.ext hxx)
  have HSb := Lib.hid (HSb.out.ext hxx)
  have HSc := Lib.hid (HSc.out.ext hxx)
  have HS1 := Lib.hid (HS1.out.ext hxx)
  have HS2 := Lib.hid (HS2.out.ext hxx)
  have HS3 := Lib.hid (HS3.out.ext hxx)
  have HS4 := Lib.hid (HS4.out.ext hxx)
  have HX := Lib.hid (Ext.trans HX.out hxx)
  clear hxn hxx
  have HS5 := Lib.hid hown.sl
  have HI5 := hi
  have HL5 : Hid (L5.length ≤ 81) := Lib.hid (by have h := hi.out.len; have h1 := HLa.out; simp only [List.length_nil, Nat.add_zero] at h; omega)
  clear hown hi hL
  go_wp2_with fail
  refine (same_v _ _ L4 L5 _ (HS4.out.ext (by (unfold Ext; repeat (first | exact Below.refl _ _ | assumption | refine Below.drew ?_ | refine below_drewN ?_ _ | refine Below.alloc ?_ (by first | exact Nat.le_refl _ | (simp; done) | (simp; omega) | omega) _ | refine Below.setCell ?_ (by first | exact Nat.le_refl _ | (simp; done) | (simp; omega) | omega) _)))) (HS5.out.ext (by (unfold Ext; repeat (first | exact Below.refl _ _ | assumption | refine Below.drew ?_ | refine below_drewN ?_ _ | refine Below.alloc ?_ (by first | exact Nat.le_refl _ | (simp; done) | (simp; omega) | omega) _ | refine Below.setCell ?_ (by first | exact Nat.le_refl _ | (simp; done) | (simp; omega) | omega) _))))).mono ?_
  rintro e W10 ⟨rfl, hxn⟩
  have hxx : Ext W9 W10 := Ext.trans (by (unfold Ext; repeat (first | exact Below.refl _ _ | assumption | refine Below.drew ?_ | refine below_drewN ?_ _ | refine Below.alloc ?_ (by first | exact Nat.le_refl _ | (simp; done) | (simp; omega) | omega) _ | refine Below.setCell ?_ (by first | exact Nat.le_refl _ | (simp; done) | (simp; omega) | omega) _))) hxn
  rw [decide_eq_true (show L4 = L5 from ordered_uniq HI4.out.ord HI5.out.ord (fun t => by simp only [HI4.out.set t, HI5.out.set t, HI1.out.set t, HI2.out.set t, fOr, hasB_nil, fCut, fAnd] <;> (cases hasB La t <;> cases hasB Lb t <;> rfl)))]
  have HSa := Lib.hid (HSa.out.ext hxx)
  have HSb := Lib.hid (HSb.out.ext hxx)
  have HSc := Lib.hid (HSc.out.ext hxx)
  have HS1 := Lib.hid (HS1.out.ext hxx)
  have HS2 := Lib.hid (HS2.out.ext hxx)
  have HS3 := Lib.hid (HS3.out.ext hxx)
  have HS4 := Lib.hid (HS4.out.ext hxx)
  have HS5 := Lib.hid (HS5.out.ext hxx)
  have HX := Lib.hid (Ext.trans HX.out hxx)
  clear hxn hxx
  go_wp2_with fail
  refine (meet_v _ _ L1 Lb _ (HS1.out.ext (by (unfold Ext; repeat (first | exact Below.refl _ _ | assumption | refine Below.drew ?_ | refine below_drewN ?_ _ | refine Below.alloc ?_ (by first | exact Nat.le_refl _ | (simp; done) | (simp; omega) | omega) _ | refine Below.setCell ?_ (by first | exact Nat.le_refl _ | (simp; done) | (simp; omega) | omega) _)))) (HSb.out.ext (by (unfold Ext; repeat (first | exact Below.refl _ _ | assumption | refine Below.drew ?_ | refine below_drewN ?_ _ | refine Below.alloc ?_ (by first | exact Nat.le_refl _ | (simp; done) | (simp; omega) | omega) _ | refine Below.setCell ?_ (by first | exact Nat.le_refl _ | (simp; done) | (simp; omega) | omega) _)))) (by have h0 := HL1.out; have h1 := HLb.out; omega)).mono ?_
  rintro e W11 ⟨⟨v6, rfl, hown⟩, hi, hxn⟩
  have hxx : Ext W10 W11 := Ext.trans (by (unfold Ext; repeat (first | exact Below.refl _ _ | assumption | refine Below.drew ?_ | refine below_drewN ?_ _ | refine Below.alloc ?_ (by first | exact Nat.le_refl _ | (simp; done) | (simp; omega) | omega) _ | refine Below.setCell ?_ (by first | exact Nat.le_refl _ | (simp; done) | (simp; omega) | omega) _))) hxn
  obtain ⟨L6, hL⟩ : ∃ L, ofL fAnd L1 Lb = L := ⟨_, rfl⟩
  rw [hL] at hown hi
  have HSa := Lib.hid (HSa.out.ext hxx)
  have HSb := Lib.hid (HSb.out.ext hxx)
  have HSc := Lib.hid (HSc.out.ext hxx)
  have HS1 := Lib.hid (HS1.out.ext hxx)
  have HS2 := Lib.hid (HS2.out.ext hxx)
  have HS3 := Lib.hid (HS3.out.ext hxx)
  have HS4 := Lib.hid (HS4.out.ext hxx)
  have HS5 := Lib.hid (HS5.out.ext hxx)
  have HX := Lib.hid (Ext.trans HX.out hxx)
  clear hxn hxx
  have HS6 := Lib.hid hown.sl
  have HI6 := hi
  have HL6 : Hid (L6.length ≤ 403) := Lib.hid (by have h := hi.out.len; have h1 := HL1.out; have h2 := HLb.out; omega)
  clear hown hi hL
  obtain ⟨p6, n6, c6, hv, hr6, _⟩ := HS6.out
  subst hv
  have HN6 : Hid (L6.length = n6) := Lib.hid hr6.1
  clear hr6
  obtain rfl : n6 = 0 := by rw [← HN6.out, show L6 = [] from ordered_uniq HI6.out.ord trivial (fun t => by simp only [HI6.out.set t, HI1.out.set t, fAnd, fCut, hasB_nil] <;> (cases hasB La t <;> cases hasB Lb t <;> rfl))]; rfl
  go_wp2_with fail
  refine (add_v _ _ La Lb _ (HSa.out.ext (by (unfold Ext; repeat (first | exact Below.refl _ _ | assumption | refine Below.drew ?_ | refine below_drewN ?_ _ | refine Below.alloc ?_ (by first | exact Nat.le_refl _ | (simp; done) | (simp; omega) | omega) _ | refine Below.setCell ?_ (by first | exact Nat.le_refl _ | (simp; done) | (simp; omega) | omega) _)))) (HSb.out.ext (by (unfold Ext; repeat (first | exact Below.refl _ _ | assumption | refine Below.drew ?_ | refine below_drewN ?_ _ | refine Below.alloc ?_ (by first | exact Nat.le_refl _ | (simp; done) | (simp; omega) | omega) _ | refine Below.setCell ?_ (by first | exact Nat.le_refl _ | (simp; done) | (simp; omega) | omega) _)))) (by have h0 := HLa.out; have h1 := HLb.out; omega)).mono ?_
  rintro e W12 ⟨⟨v7, rfl, hown⟩, hi, hxn⟩
  have hxx : Ext W11 W12 := Ext.trans (by (unfold Ext; repeat (first | exact Below.refl _ _ | assumption | refine Below.drew ?_ | refine below_drewN ?_ _ | refine Below.alloc ?_ (by first | exact Nat.le_refl _ | (simp; done) | (simp; omega) | omega) _ | refine Below.setCell ?_ (by first | exact Nat.le_refl _ | (simp; done) | (simp; omega) | omega) _))) hxn
  obtain ⟨L7, hL⟩ : ∃ L, ofL fOr La Lb = L := ⟨_, rfl⟩
  rw [hL] at hown hi
  have HSa := Lib.hid (HSa.out.ext hxx)
  have HSb := Lib.hid (HSb.out.ext hxx)
  have HSc := Lib.hid (HSc.out.ext hxx)
  have HS1 := Lib.hid (HS1.out.ext hxx)
  have HS2 := Lib.hid (HS2.out.ext hxx)
  have HS3 := Lib.hid (HS3.out.ext hxx)
  have HS4 := Lib.hid (HS4.out.ext hxx)
  have HS5 := Lib.hid (HS5.out.ext hxx)
  have HS6 := Lib.hid (HS6.out.ext hxx)
  have HX := Lib.hid (Ext.trans HX.out hxx)
  clear hxn hxx
  have HS7 := Lib.hid hown.sl
  have HI7 := hi
  have HL7 : Hid (L7.length ≤ 161) := Lib.hid (by have h := hi.out.len; have h1 := HLa.out; have h2 := HLb.out; omega)
  clear hown hi hL
  go_wp2_with fail
  refine (add_v _ _ Lb La _ (HSb.out.ext (by (unfold Ext; repeat (first | exact Below.refl _ _ | assumption | refine Below.drew ?_ | refine below_drewN ?_ _ | refine Below.alloc ?_ (by first | exact Nat.le_refl _ | (simp; done) | (simp; omega) | omega) _ | refine Below.setCell ?_ (by first | exact Nat.le_refl _ | (simp; done) | (simp; omega) | omega) _)))) (HSa.out.ext (by (unfold Ext; repeat (first | exact Below.refl _ _ | assumption | refine Below.drew ?_ | refine below_drewN ?_ _ | refine Below.alloc ?_ (by first | exact Nat.le_refl _ | (simp; done) | (simp; omega) | omega) _ | refine Below.setCell ?_ (by first | exact Nat.le_refl _ | (simp; done) | (simp; omega) | omega) _)))) (by have h0 := HLb.out; have h1 := HLa.out; omega)).mono ?_
  rintro e W13 ⟨⟨v8, rfl, hown⟩, hi, hxn⟩
  have hxx : Ext W12 W13 := Ext.trans (by (unfold Ext; repeat (first | exact Below.refl _ _ | assumption | refine Below.drew ?_ | refine below_drewN ?_ _ | refine Below.alloc ?_ (by first | exact Nat.le_refl _ | (simp; done) | (simp; omega) | omega) _ | refine Below.setCell ?_ (by first | exact Nat.le_refl _ | (simp; done) | (simp; omega) | omega) _))) hxn
  obtain ⟨L8, hL⟩ : ∃ L, ofL fOr Lb La = L := ⟨_, rfl⟩
  rw [hL] at hown hi
  have HSa := Lib.hid (HSa.out.ext hxx)
  have HSb := Lib.hid (HSb.out.ext hxx)
  have HSc := Lib.hid (HSc.out.ext hxx)
  have HS1 := Lib.hid (HS1.out.ext hxx)
  have HS2 := Lib.hid (HS2.out.ext hxx)
  have HS3 := Lib.hid (HS3.out.ext hxx)
  have HS4 := Lib.hid (HS4.out.ext hxx)
  have HS5 := Lib.hid (HS5.out.ext hxx)
  have HS6 := Lib.hid (HS6.out.ext hxx)
  have HS7 := Lib.hid (HS7.out.ext hxx)
  have HX := Lib.hid (Ext.trans HX.out hxx)
  clear hxn hxx
  have HS8 := Lib.hid hown.sl
  have HI8 := hi
  have HL8 : Hid (L8.length ≤ 161) := Lib.hid (by have h := hi.out.len; have h1 := HLb.out; have h2 := HLa.out; omega)
  clear hown hi hL
  go_wp2_with fail
  refine (same_v _ _ L7 L8 _ (HS7.out.ext (by (unfold Ext; repeat (first | exact Below.refl _ _ | assumption | refine Below.drew ?_ | refine below_drewN ?_ _ | refine Below.alloc ?_ (by first | exact Nat.le_refl _ | (simp; done) | (simp; omega) | omega) _ | refine Below.setCell ?_ (by first | exact Nat.le_refl _ | (simp; done) | (simp; omega) | omega) _)))) (HS8.out.ext (by (unfold Ext; repeat (first | exact Below.refl _ _ | assumption | refine Below.drew ?_ | refine below_drewN ?_ _ | refine Below.alloc ?_ (by first | exact Nat.le_refl _ | (simp; done) | (simp; omega) | omega) _ | refine Below.setCell ?_ (by first | exact Nat.le_refl _ | (simp; done) | (simp; omega) | omega) _))))).mono ?_
  rintro e W14 ⟨rfl, hxn⟩
  have hxx : Ext W13 W14 := Ext.trans (by (unfold Ext; repeat (first | exact Below.refl _ _ | assumption | refine Below.drew ?_ | refine below_drewN ?_ _ | refine Below.alloc ?_ (by first | exact Nat.le_refl _ | (simp; done) | (simp; omega) | omega) _ | refine Below.setCell ?_ (by first | exact Nat.le_refl _ | (simp; done) | (simp; omega) | omega) _))) hxn
  rw [decide_eq_true (show L7 = L8 from ordered_uniq HI7.out.ord HI8.out.ord (fun t => by simp only [HI7.out.set t, HI8.out.set t, fOr] <;> (cases hasB La t <;> cases hasB Lb t <;> rfl)))]
  have HSa := Lib.hid (HSa.out.ext hxx)
  have HSb := Lib.hid (HSb.out.ext hxx)
  have HSc := Lib.hid (HSc.out.ext hxx)
  have HS1 := Lib.hid (HS1.out.ext hxx)
  have HS2 := Lib.hid (HS2.out.ext hxx)
  have HS3 := Lib.hid (HS3.out.ext hxx)
  have HS4 := Lib.hid (HS4.out.ext hxx)
  have HS5 := Lib.hid (HS5.out.ext hxx)
  have HS6 := Lib.hid (HS6.out.ext hxx)
  have HS7 := Lib.hid (HS7.out.ext hxx)
  have HS8 := Lib.hid (HS8.out.ext hxx)
  have HX := Lib.hid (Ext.trans HX.out hxx)
  clear hxn hxx
  go_wp2_with fail
  refine (meet_v _ _ Lb La _ (HSb.out.ext (by (unfold Ext; repeat (first | exact Below.refl _ _ | assumption | refine Below.drew ?_ | refine below_drewN ?_ _ | refine Below.alloc ?_ (by first | exact Nat.le_refl _ | (simp; done) | (simp; omega) | omega) _ | refine Below.setCell ?_ (by first | exact Nat.le_refl _ | (simp; done) | (simp; omega) | omega) _)))) (HSa.out.ext (by (unfold Ext; repeat (first | exact Below.refl _ _ | assumption | refine Below.drew ?_ | refine below_drewN ?_ _ | refine Below.alloc ?_ (by first | exact Nat.le_refl _ | (simp; done) | (simp; omega) | omega) _ | refine Below.setCell ?_ (by first | exact Nat.le_refl _ | (simp; done) | (simp; omega) | omega) _)))) (by have h0 := HLb.out; have h1 := HLa.out; omega)).mono ?_
  rintro e W15 ⟨⟨v9, rfl, hown⟩, hi, hxn⟩
  have hxx : Ext W14 W15 := Ext.trans (by (unfold Ext; repeat (first | exact Below.refl _ _ | assumption | refine Below.drew ?_ | refine below_drewN ?_ _ | refine Below.alloc ?_ (by first | exact Nat.le_refl _ | (simp; done) | (simp; omega) | omega) _ | refine Below.setCell ?_ (by first | exact Nat.le_refl _ | (simp; done) | (simp; omega) | omega) _))) hxn
  obtain ⟨L9, hL⟩ : ∃ L, ofL fAnd Lb La = L := ⟨_, rfl⟩
  rw [hL] at hown hi
  have HSa := Lib.hid (HSa.out.ext hxx)
  have HSb := Lib.hid (HSb.out.ext hxx)
  have HSc := Lib.hid (HSc.out.ext hxx)
  have HS1 := Lib.hid (HS1.out.ext hxx)
  have HS2 := Lib.hid (HS2.out.ext hxx)
  have HS3 := Lib.hid (HS3.out.ext hxx)
  have HS4 := Lib.hid (HS4.out.ext hxx)
  have HS5 := Lib.hid (HS5.out.ext hxx)
  have HS6 := Lib.hid (HS6.out.ext hxx)
  have HS7 := Lib.hid (HS7.out.ext hxx)
  have HS8 := Lib.hid (HS8.out.ext hxx)
  have HX := Lib.hid (Ext.trans HX.out hxx)
  clear hxn hxx
  have HS9 := Lib.hid hown.sl
  have HI9 := hi
  have HL9 : Hid (L9.length ≤ 161) := Lib.hid (by have h := hi.out.len; have h1 := HLb.out; have h2 := HLa.out; omega)
  clear hown hi hL
  go_wp2_with fail
  refine (same_v _ _ L2 L9 _ (HS2.out.ext (by (unfold Ext; repeat (first | exact Below.refl _ _ | assumption | refine Below.drew ?_ | refine below_drewN ?_ _ | refine Below.alloc ?_ (by first | exact Nat.le_refl _ | (simp; done) | (simp; omega) | omega) _ | refine Below.setCell ?_ (by first | exact Nat.le_refl _ | (simp; done) | (simp; omega) | omega) _)))) (HS9.out.ext (by (unfold Ext; repeat (first | exact Below.refl _ _ | assumption | refine Below.drew ?_ | refine below_drewN ?_ _ | refine Below.alloc ?_ (by first | exact Nat.le_refl _ | (simp; done) | (simp; omega) | omega) _ | refine Below.setCell ?_ (by first | exact Nat.le_refl _ | (simp; done) | (simp; omega) | omega) _))))).mono ?_
  rintro e W16 ⟨rfl, hxn⟩
  have hxx : Ext W15 W16 := Ext.trans (by (unfold Ext; repeat (first | exact Below.refl _ _ | assumption | refine Below.drew ?_ | refine below_drewN ?_ _ | refine Below.alloc ?_ (by first | exact Nat.le_refl _ | (simp; done) | (simp; omega) | omega) _ | refine Below.setCell ?_ (by first | exact Nat.le_refl _ | (simp; done) | (simp; omega) | omega) _))) hxn
  rw [decide_eq_true (show L2 = L9 from ordered_uniq HI2.out.ord HI9.out.ord (fun t => by simp only [HI2.out.set t, HI9.out.set t, fAnd] <;> (cases hasB La t <;> cases hasB Lb t <;> rfl)))]
  have HSa := Lib.hid (HSa.out.ext hxx)
  have HSb := Lib.hid (HSb.out.ext hxx)
  have HSc := Lib.hid (HSc.out.ext hxx)
  have HS1 := Lib.hid (HS1.out.ext hxx)
  have HS2 := Lib.hid (HS2.out.ext hxx)
  have HS3 := Lib.hid (HS3.out.ext hxx)
  have HS4 := Lib.hid (HS4.out.ext hxx)
  have HS5 := Lib.hid (HS5.out.ext hxx)
  have HS6 := Lib.hid (HS6.out.ext hxx)
  have HS7 := Lib.hid (HS7.out.ext hxx)
  have HS8 := Lib.hid (HS8.out.ext hxx)
  have HS9 := Lib.hid (HS9.out.ext hxx)
  have HX := Lib.hid (Ext.trans HX.out hxx)
  clear hxn hxx
  go_wp2_with fail
  refine (cut_v _ _ La La _ (HSa.out.ext (by (unfold Ext; repeat (first | exact Below.refl _ _ | assumption | refine Below.drew ?_ | refine below_drewN ?_ _ | refine Below.alloc ?_ (by first | exact Nat.le_refl _ | (simp; done) | (simp; omega) | omega) _ | refine Below.setCell ?_ (by first | exact Nat.le_refl _ | (simp; done) | (simp; omega) | omega) _)))) (HSa.out.ext (by (unfold Ext; repeat (first | exact Below.refl _ _ | assumption | refine Below.drew ?_ | refine below_drewN ?_ _ | refine Below.alloc ?_ (by first | exact Nat.le_refl _ | (simp; done) | (simp; omega) | omega) _ | refine Below.setCell ?_ (by first | exact Nat.le_refl _ | (simp; done) | (simp; omega) | omega) _)))) (by have h0 := HLa.out; have h1 := HLa.out; omega)).mono ?_
  rintro e W17 ⟨⟨v10, rfl, hown⟩, hi, hxn⟩
  have hxx : Ext W16 W17 := Ext.trans (by (unfold Ext; repeat (first | exact Below.refl _ _ | assumption | refine Below.drew ?_ | refine below_drewN ?_ _ | refine Below.alloc ?_ (by first | exact Nat.le_refl _ | (simp; done) | (simp; omega) | omega) _ | refine Below.setCell ?_ (by first | exact Nat.le_refl _ | (simp; done) | (simp; omega) | omega) _))) hxn
  obtain ⟨L10, hL⟩ : ∃ L, ofL fCut La La = L := ⟨_, rfl⟩
  rw [hL] at hown hi
  have HSa := Lib.hid (HSa.out.ext hxx)
  have HSb := Lib.hid (HSb.out.ext hxx)
  have HSc := Lib.hid (HSc.out.ext hxx)
  have HS1 := Lib.hid (HS1.out.ext hxx)
  have HS2 := Lib.hid (HS2.out.ext hxx)
  have HS3 := Lib.hid (HS3.out.ext hxx)
  have HS4 := Lib.hid (HS4.out.ext hxx)
  have HS5 := Lib.hid (HS5.out.ext hxx)
  have HS6 := Lib.hid (HS6.out.ext hxx)
  have HS7 := Lib.hid (HS7.out.ext hxx)
  have HS8 := Lib.hid (HS8.out.ext hxx)
  have HS9 := Lib.hid (HS9.out.ext hxx)
  have HX := Lib.hid (Ext.trans HX.out hxx)
  clear hxn hxx
  have HS10 := Lib.hid hown.sl
  have HI10 := hi
  have HL10 : Hid (L10.length ≤ 161) := Lib.hid (by have h := hi.out.len; have h1 := HLa.out; have h2 := HLa.out; omega)
  clear hown hi hL
  obtain ⟨p10, n10, c10, hv, hr10, _⟩ := HS10.out
  subst hv
  have HN10 : Hid (L10.length = n10) := Lib.hid hr10.1
  clear hr10
  obtain rfl : n10 = 0 := by rw [← HN10.out, show L10 = [] from ordered_uniq HI10.out.ord trivial (fun t => by simp only [HI10.out.set t, fCut, hasB_nil] <;> (cases hasB La t <;> rfl))]; rfl
  go_wp2_with fail
  refine (meet_v _ _ La La _ (HSa.out.ext (by (unfold Ext; repeat (first | exact Below.refl _ _ | assumption | refine Below.drew ?_ | refine below_drewN ?_ _ | refine Below.alloc ?_ (by first | exact Nat.le_refl _ | (simp; done) | (simp; omega) | omega) _ | refine Below.setCell ?_ (by first | exact Nat.le_refl _ | (simp; done) | (simp; omega) | omega) _)))) (HSa.out.ext (by (unfold Ext; repeat (first | exact Below.refl _ _ | assumption | refine Below.drew ?_ | refine below_drewN ?_ _ | refine Below.alloc ?_ (by first | exact Nat.le_refl _ | (simp; done) | (simp; omega) | omega) _ | refine Below.setCell ?_ (by first | exact Nat.le_refl _ | (simp; done) | (simp; omega) | omega) _)))) (by have h0 := HLa.out; have h1 := HLa.out; omega)).mono ?_
  rintro e W18 ⟨⟨v11, rfl, hown⟩, hi, hxn⟩
  have hxx : Ext W17 W18 := Ext.trans (by (unfold Ext; repeat (first | exact Below.refl _ _ | assumption | refine Below.drew ?_ | refine below_drewN ?_ _ | refine Below.alloc ?_ (by first | exact Nat.le_refl _ | (simp; done) | (simp; omega) | omega) _ | refine Below.setCell ?_ (by first | exact Nat.le_refl _ | (simp; done) | (simp; omega) | omega) _))) hxn
  obtain ⟨L11, hL⟩ : ∃ L, ofL fAnd La La = L := ⟨_, rfl⟩
  rw [hL] at hown hi
  have HSa := Lib.hid (HSa.out.ext hxx)
  have HSb := Lib.hid (HSb.out.ext hxx)
  have HSc := Lib.hid (HSc.out.ext hxx)
  have HS1 := Lib.hid (HS1.out.ext hxx)
  have HS2 := Lib.hid (HS2.out.ext hxx)
  have HS3 := Lib.hid (HS3.out.ext hxx)
  have HS4 := Lib.hid (HS4.out.ext hxx)
  have HS5 := Lib.hid (HS5.out.ext hxx)
  have HS6 := Lib.hid (HS6.out.ext hxx)
  have HS7 := Lib.hid (HS7.out.ext hxx)
  have HS8 := Lib.hid (HS8.out.ext hxx)
  have HS9 := Lib.hid (HS9.out.ext hxx)
  have HS10 := Lib.hid (HS10.out.ext hxx)
  have HX := Lib.hid (Ext.trans HX.out hxx)
  clear hxn hxx
  have HS11 := Lib.hid hown.sl
  have HI11 := hi
  have HL11 : Hid (L11.length ≤ 161) := Lib.hid (by have h := hi.out.len; have h1 := HLa.out; have h2 := HLa.out; omega)
  clear hown hi hL
  go_wp2_with fail
  refine (norm_v _ La _ (HSa.out.ext (by (unfold Ext; repeat (first | exact Below.refl _ _ | assumption | refine Below.drew ?_ | refine below_drewN ?_ _ | refine Below.alloc ?_ (by first | exact Nat.le_refl _ | (simp; done) | (simp; omega) | omega) _ | refine Below.setCell ?_ (by first | exact Nat.le_refl _ | (simp; done) | (simp; omega) | omega) _)))) (by have h0 := HLa.out; omega)).mono ?_
  rintro e W19 ⟨⟨v12, rfl, hown⟩, hi, hxn⟩
  have hxx : Ext W18 W19 := Ext.trans (by (unfold Ext; repeat (first | exact Below.refl _ _ | assumption | refine Below.drew ?_ | refine below_drewN ?_ _ | refine Below.alloc ?_ (by first | exact Nat.le_refl _ | (simp; done) | (simp; omega) | omega) _ | refine Below.setCell ?_ (by first | exact Nat.le_refl _ | (simp; done) | (simp; omega) | omega) _))) hxn
  obtain ⟨L12, hL⟩ : ∃ L, ofL fOr La [] = L := ⟨_, rfl⟩
  rw [hL] at hown hi
  have HSa := Lib.hid (HSa.out.ext hxx)
  have HSb := Lib.hid (HSb.out.ext hxx)
  have HSc := Lib.hid (HSc.out.ext hxx)
  have HS1 := Lib.hid (HS1.out.ext hxx)
  have HS2 := Lib.hid (HS2.out.ext hxx)
  have HS3 := Lib.hid (HS3.out.ext hxx)
  have HS4 := Lib.hid (HS4.out.ext hxx)
  have HS5 := Lib.hid (HS5.out.ext hxx)
  have HS6 := Lib.hid (HS6.out.ext hxx)
  have HS7 := Lib.hid (HS7.out.ext hxx)
  have HS8 := Lib.hid (HS8.out.ext hxx)
  have HS9 := Lib.hid (HS9.out.ext hxx)
  have HS10 := Lib.hid (HS10.out.ext hxx)
  have HS11 := Lib.hid (HS11.out.ext hxx)
  have HX := Lib.hid (Ext.trans HX.out hxx)
  clear hxn hxx
  have HS12 := Lib.hid hown.sl
  have HI12 := hi
  have HL12 : Hid (L12.length ≤ 81) := Lib.hid (by have h := hi.out.len; have h1 := HLa.out; simp only [List.length_nil, Nat.add_zero] at h; omega)
  clear hown hi hL
  go_wp2_with fail
  refine (same_v _ _ L11 L12 _ (HS11.out.ext (by (unfold Ext; repeat (first | exact Below.refl _ _ | assumption | refine Below.drew ?_ | refine below_drewN ?_ _ | refine Below.alloc ?_ (by first | exact Nat.le_refl _ | (simp; done) | (simp; omega) | omega) _ | refine Below.setCell ?_ (by first | exact Nat.le_refl _ | (simp; done) | (simp; omega) | omega) _)))) (HS12.out.ext (by (unfold Ext; repeat (first | exact Below.refl _ _ | assumption | refine Below.drew ?_ | refine below_drewN ?_ _ | refine Below.alloc ?_ (by first | exact Nat.le_refl _ | (simp; done) | (simp; omega) | omega) _ | refine Below.setCell ?_ (by first | exact Nat.le_refl _ | (simp; done) | (simp; omega) | omega) _))))).mono ?_
  rintro e W20 ⟨rfl, hxn⟩
  have hxx : Ext W19 W20 := Ext.trans (by (unfold Ext; repeat (first | exact Below.refl _ _ | assumption | refine Below.drew ?_ | refine below_drewN ?_ _ | refine Below.alloc ?_ (by first | exact Nat.le_refl _ | (simp; done) | (simp; omega) | omega) _ | refine Below.setCell ?_ (by first | exact Nat.le_refl _ | (simp; done) | (simp; omega) | omega) _))) hxn
  rw [decide_eq_true (show L11 = L12 from ordered_uniq HI11.out.ord HI12.out.ord (fun t => by simp only [HI11.out.set t, HI12.out.set t, fAnd, fOr, hasB_nil] <;> (cases hasB La t <;> rfl)))]
  have HSa := Lib.hid (HSa.out.ext hxx)
  have HSb := Lib.hid (HSb.out.ext hxx)
  have HSc := Lib.hid (HSc.out.ext hxx)
  have HS1 := Lib.hid (HS1.out.ext hxx)
  have HS2 := Lib.hid (HS2.out.ext hxx)
  have HS3 := Lib.hid (HS3.out.ext hxx)
  have HS4 := Lib.hid (HS4.out.ext hxx)
  have HS5 := Lib.hid (HS5.out.ext hxx)
  have HS6 := Lib.hid (HS6.out.ext hxx)
  have HS7 := Lib.hid (HS7.out.ext hxx)
  have HS8 := Lib.hid (HS8.out.ext hxx)
  have HS9 := Lib.hid (HS9.out.ext hxx)
  have HS10 := Lib.hid (HS10.out.ext hxx)
  have HS11 := Lib.hid (HS11.out.ext hxx)
  have HS12 := Lib.hid (HS12.out.ext hxx)
  have HX := Lib.hid (Ext.trans HX.out hxx)
  clear hxn hxx
  go_wp2_with fail
  refine (cut_v _ _ L1 Lc _ (HS1.out.ext (by (unfold Ext; repeat (first | exact Below.refl _ _ | assumption | refine Below.drew ?_ | refine below_drewN ?_ _ | refine Below.alloc ?_ (by first | exact Nat.le_refl _ | (simp; done) | (simp; omega) | omega) _ | refine Below.setCell ?_ (by first | exact Nat.le_refl _ | (simp; done) | (simp; omega) | omega) _)))) (HSc.out.ext (by (unfold Ext; repeat (first | exact Below.refl _ _ | assumption | refine Below.drew ?_ | refine below_drewN ?_ _ | refine Below.alloc ?_ (by first | exact Nat.le_refl _ | (simp; done) | (simp; omega) | omega) _ | refine Below.setCell ?_ (by first | exact Nat.le_refl _ | (simp; done) | (simp; omega) | omega) _)))) (by have h0 := HL1.out; have h1 := HLc.out; omega)).mono ?_
  rintro e W21 ⟨⟨v13, rfl, hown⟩, hi, hxn⟩
  have hxx : Ext W20 W21 := Ext.trans (by (unfold Ext; repeat (first | exact Below.refl _ _ | assumption | refine Below.drew ?_ | refine below_drewN ?_ _ | refine Below.alloc ?_ (by first | exact Nat.le_refl _ | (simp; done) | (simp; omega) | omega) _ | refine Below.setCell ?_ (by first | exact Nat.le_refl _ | (simp; done) | (simp; omega) | omega) _))) hxn
  obtain ⟨L13, hL⟩ : ∃ L, ofL fCut L1 Lc = L := ⟨_, rfl⟩
  rw [hL] at hown hi
  have HSa := Lib.hid (HSa.out.ext hxx)
  have HSb := Lib.hid (HSb.out.ext hxx)
  have HSc := Lib.hid (HSc.out.ext hxx)
  have HS1 := Lib.hid (HS1.out.ext hxx)
  have HS2 := Lib.hid (HS2.out.ext hxx)
  have HS3 := Lib.hid (HS3.out.ext hxx)
  have HS4 := Lib.hid (HS4.out.ext hxx)
  have HS5 := Lib.hid (HS5.out.ext hxx)
  have HS6 := Lib.hid (HS6.out.ext hxx)
  have HS7 := Lib.hid (HS7.out.ext hxx)
  have HS8 := Lib.hid (HS8.out.ext hxx)
  have HS9 := Lib.hid (HS9.out.ext hxx)
  have HS10 := Lib.hid (HS10.out.ext hxx)
  have HS11 := Lib.hid (HS11.out.ext hxx)
  have HS12 := Lib.hid (HS12.out.ext hxx)
  have HX := Lib.hid (Ext.trans HX.out hxx)
  clear hxn hxx
  have HS13 := Lib.hid hown.sl
  have HI13 := hi
  have HL13 : Hid (L13.length ≤ 403) := Lib.hid (by have h := hi.out.len; have h1 := HL1.out; have h2 := HLc.out; omega)
  clear hown hi hL
  go_wp2_with fail
  refine (add_v _ _ Lb Lc _ (HSb.out.ext (by (unfold Ext; repeat (first | exact Below.refl _ _ | assumption | refine Below.drew ?_ | refine below_drewN ?_ _ | refine Below.alloc ?_ (by first | exact Nat.le_refl _ | (simp; done) | (simp; omega) | omega) _ | refine Below.setCell ?_ (by first | exact Nat.le_refl _ | (simp; done) | (simp; omega) | omega) _)))) (HSc.out.ext (by (unfold Ext; repeat (first | exact Below.refl _ _ | assumption | refine Below.drew ?_ | refine below_drewN ?_ _ | refine Below.alloc ?_ (by first | exact Nat.le_refl _ | (simp; done) | (simp; omega) | omega) _ | refine Below.setCell ?_ (by first | exact Nat.le_refl _ | (simp; done) | (simp; omega) | omega) _)))) (by have h0 := HLb.out; have h1 := HLc.out; omega)).mono ?_
  rintro e W22 ⟨⟨v14, rfl, hown⟩, hi, hxn⟩
  have hxx : Ext W21 W22 := Ext.trans (by (unfold Ext; repeat (first | exact Below.refl _ _ | assumption | refine Below.drew ?_ | refine below_drewN ?_ _ | refine Below.alloc ?_ (by first | exact Nat.le_refl _ | (simp; done) | (simp; omega) | omega) _ | refine Below.setCell ?_ (by first | exact Nat.le_refl _ | (simp; done) | (simp; omega) | omega) _))) hxn
  obtain ⟨L14, hL⟩ : ∃ L, ofL fOr Lb Lc = L := ⟨_, rfl⟩
  rw [hL] at hown hi
  have HSa := Lib.hid (HSa.out.ext hxx)
  have HSb := Lib.hid (HSb.out.ext hxx)
  have HSc := Lib.hid (HSc.out.ext hxx)
  have HS1 := Lib.hid (HS1.out.ext hxx)
  have HS2 := Lib.hid (HS2.out.ext hxx)
  have HS3 := Lib.hid (HS3.out.ext hxx)
  have HS4 := Lib.hid (HS4.out.ext hxx)
  have HS5 := Lib.hid (HS5.out.ext hxx)
  have HS6 := Lib.hid (HS6.out.ext hxx)
  have HS7 := Lib.hid (HS7.out.ext hxx)
  have HS8 := Lib.hid (HS8.out.ext hxx)
  have HS9 := Lib.hid (HS9.out.ext hxx)
  have HS10 := Lib.hid (HS10.out.ext hxx)
  have HS11 := Lib.hid (HS11.out.ext hxx)
  have HS12 := Lib.hid (HS12.out.ext hxx)
  have HS13 := Lib.hid (HS13.out.ext hxx)
  have HX := Lib.hid (Ext.trans HX.out hxx)
  clear hxn hxx
  have HS14 := Lib.hid hown.sl
  have HI14 := hi
  have HL14 : Hid (L14.length ≤ 161) := Lib.hid (by have h := hi.out.len; have h1 := HLb.out; have h2 := HLc.out; omega)
  clear hown hi hL
  go_wp2_with fail
  refine (cut_v _ _ La L14 _ (HSa.out.ext (by (unfold Ext; repeat (first | exact Below.refl _ _ | assumption | refine Below.drew ?_ | refine below_drewN ?_ _ | refine Below.alloc ?_ (by first | exact Nat.le_refl _ | (simp; done) | (simp; omega) | omega) _ | refine Below.setCell ?_ (by first | exact Nat.le_refl _ | (simp; done) | (simp; omega) | omega) _)))) (HS14.out.ext (by (unfold Ext; repeat (first | exact Below.refl _ _ | assumption | refine Below.drew ?_ | refine below_drewN ?_ _ | refine Below.alloc ?_ (by first | exact Nat.le_refl _ | (simp; done) | (simp; omega) | omega) _ | refine Below.setCell ?_ (by first | exact Nat.le_refl _ | (simp; done) | (simp; omega) | omega) _)))) (by have h0 := HLa.out; have h1 := HL14.out; omega)).mono ?_
  rintro e W23 ⟨⟨v15, rfl, hown⟩, hi, hxn⟩
  have hxx : Ext W22 W23 := Ext.trans (by (unfold Ext; repeat (first | exact Below.refl _ _ | assumption | refine Below.drew ?_ | refine below_drewN ?_ _ | refine Below.alloc ?_ (by first | exact Nat.le_refl _ | (simp; done) | (simp; omega) | omega) _ | refine Below.setCell ?_ (by first | exact Nat.le_refl _ | (simp; done) | (simp; omega) | omega) _))) hxn
  obtain ⟨L15, hL⟩ : ∃ L, ofL fCut La L14 = L := ⟨_, rfl⟩
  rw [hL] at hown hi
  have HSa := Lib.hid (HSa.out.ext hxx)
  have HSb := Lib.hid (HSb.out.ext hxx)
  have HSc := Lib.hid (HSc.out.ext hxx)
  have HS1 := Lib.hid (HS1.out.ext hxx)
  have HS2 := Lib.hid (HS2.out.ext hxx)
  have HS3 := Lib.hid (HS3.out.ext hxx)
  have HS4 := Lib.hid (HS4.out.ext hxx)
  have HS5 := Lib.hid (HS5.out.ext hxx)
  have HS6 := Lib.hid (HS6.out.ext hxx)
  have HS7 := Lib.hid (HS7.out.ext hxx)
  have HS8 := Lib.hid (HS8.out.ext hxx)
  have HS9 := Lib.hid (HS9.out.ext hxx)
  have HS10 := Lib.hid (HS10.out.ext hxx)
  have HS11 := Lib.hid (HS11.out.ext hxx)
  have HS12 := Lib.hid (HS12.out.ext hxx)
  have HS13 := Lib.hid (HS13.out.ext hxx)
  have HS14 := Lib.hid (HS14.out.ext hxx)
  have HX := Lib.hid (Ext.trans HX.out hxx)
  clear hxn hxx
  have HS15 := Lib.hid hown.sl
  have HI15 := hi
  have HL15 : Hid (L15.length ≤ 403) := Lib.hid (by have h := hi.out.len; have h1 := HLa.out; have h2 := HL14.out; omega)
  clear hown hi hL
  go_wp2_with fail
  refine (same_v _ _ L13 L15 _ (HS13.out.ext (by (unfold Ext; repeat (first | exact Below.refl _ _ | assumption | refine Below.drew ?_ | refine below_drewN ?_ _ | refine Below.alloc ?_ (by first | exact Nat.le_refl _ | (simp; done) | (simp; omega) | omega) _ | refine Below.setCell ?_ (by first | exact Nat.le_refl _ | (simp; done) | (simp; omega) | omega) _)))) (HS15.out.ext (by (unfold Ext; repeat (first | exact Below.refl _ _ | assumption | refine Below.drew ?_ | refine below_drewN ?_ _ | refine Below.alloc ?_ (by first | exact Nat.le_refl _ | (simp; done) | (simp; omega) | omega) _ | refine Below.setCell ?_ (by first | exact Nat.le_refl _ | (simp; done) | (simp; omega) | omega) _))))).mono ?_
  rintro e W24 ⟨rfl, hxn⟩
  have hxx : Ext W23 W24 := Ext.trans (by (unfold Ext; repeat (first | exact Below.refl _ _ | assumption | refine Below.drew ?_ | refine below_drewN ?_ _ | refine Below.alloc ?_ (by first | exact Nat.le_refl _ | (simp; done) | (simp; omega) | omega) _ | refine Below.setCell ?_ (by first | exact Nat.le_refl _ | (simp; done) | (simp; omega) | omega) _))) hxn
  rw [decide_eq_true (show L13 = L15 from ordered_uniq HI13.out.ord HI15.out.ord (fun t => by simp only [HI13.out.set t, HI15.out.set t, HI14.out.set t, HI1.out.set t, fCut, fOr] <;> (cases hasB La t <;> cases hasB Lb t <;> cases hasB Lc t <;> rfl)))]
  have HSa := Lib.hid (HSa.out.ext hxx)
  have HSb := Lib.hid (HSb.out.ext hxx)
  have HSc := Lib.hid (HSc.out.ext hxx)
  have HS1 := Lib.hid (HS1.out.ext hxx)
  have HS2 := Lib.hid (HS2.out.ext hxx)
  have HS3 := Lib.hid (HS3.out.ext hxx)
  have HS4 := Lib.hid (HS4.out.ext hxx)
  have HS5 := Lib.hid (HS5.out.ext hxx)
  have HS6 := Lib.hid (HS6.out.ext hxx)
  have HS7 := Lib.hid (HS7.out.ext hxx)
  have HS8 := Lib.hid (HS8.out.ext hxx)
  have HS9 := Lib.hid (HS9.out.ext hxx)
  have HS10 := Lib.hid (HS10.out.ext hxx)
  have HS11 := Lib.hid (HS11.out.ext hxx)
  have HS12 := Lib.hid (HS12.out.ext hxx)
  have HS13 := Lib.hid (HS13.out.ext hxx)
  have HS14 := Lib.hid (HS14.out.ext hxx)
  have HS15 := Lib.hid (HS15.out.ext hxx)
  have HX := Lib.hid (Ext.trans HX.out hxx)
  clear hxn hxx
  go_wp2_with fail
  refine (add_v _ _ La Lb _ (HSa.out.ext (by (unfold Ext; repeat (first | exact Below.refl _ _ | assumption | refine Below.drew ?_ | refine below_drewN ?_ _ | refine Below.alloc ?_ (by first | exact Nat.le_refl _ | (simp; done) | (simp; omega) | omega) _ | refine Below.setCell ?_ (by first | exact Nat.le_refl _ | (simp; done) | (simp; omega) | omega) _)))) (HSb.out.ext (by (unfold Ext; repeat (first | exact Below.refl _ _ | assumption | refine Below.drew ?_ | refine below_drewN ?_ _ | refine Below.alloc ?_ (by first | exact Nat.le_refl _ | (simp; done) | (simp; omega) | omega) _ | refine Below.setCell ?_ (by first | exact Nat.le_refl _ | (simp; done) | (simp; omega) | omega) _)))) (by have h0 := HLa.out; have h1 := HLb.out; omega)).mono ?_
  rintro e W25 ⟨⟨v16, rfl, hown⟩, hi, hxn⟩
  have hxx : Ext W24 W25 := Ext.trans (by (unfold Ext; repeat (first | exact Below.refl _ _ | assumption | refine Below.drew ?_ | refine below_drewN ?_ _ | refine Below.alloc ?_ (by first | exact Nat.le_refl _ | (simp; done) | (simp; omega) | omega) _ | refine Below.setCell ?_ (by first | exact Nat.le_refl _ | (simp; done) | (simp; omega) | omega) _))) hxn
  obtain ⟨L16, hL⟩ : ∃ L, ofL fOr La Lb = L := ⟨_, rfl⟩
  rw [hL] at hown hi
  have HSa := Lib.hid (HSa.out.ext hxx)
  have HSb := Lib.hid (HSb.out.ext hxx)
  have HSc := Lib.hid (HSc.out.ext hxx)
  have HS1 := Lib.hid (HS1.out.ext hxx)
  have HS2 := Lib.hid (HS2.out.ext hxx)
  have HS3 := Lib.hid (HS3.out.ext hxx)
  have HS4 := Lib.hid (HS4.out.ext hxx)
  have HS5 := Lib.hid (HS5.out.ext hxx)
  have HS6 := Lib.hid (HS6.out.ext hxx)
  have HS7 := Lib.hid (HS7.out.ext hxx)
  have HS8 := Lib.hid (HS8.out.ext hxx)
  have HS9 := Lib.hid (HS9.out.ext hxx)
  have HS10 := Lib.hid (HS10.out.ext hxx)
  have HS11 := Lib.hid (HS11.out.ext hxx)
  have HS12 := Lib.hid (HS12.out.ext hxx)
  have HS13 := Lib.hid (HS13.out.ext hxx)
  have HS14 := Lib.hid (HS14.out.ext hxx)
  have HS15 := Lib.hid (HS15.out.ext hxx)
  have HX := Lib.hid (Ext.trans HX.out hxx)
  clear hxn hxx
  have HS16 := Lib.hid hown.sl
  have HI16 := hi
  have HL16 : Hid (L16.length ≤ 161) := Lib.hid (by have h := hi.out.len; have h1 := HLa.out; have h2 := HLb.out; omega)
  clear hown hi hL
  go_wp2_with fail
  refine (add_v _ _ L16 Lc _ (HS16.out.ext (by (unfold Ext; repeat (first | exact Below.refl _ _ | assumption | refine Below.drew ?_ | refine below_drewN ?_ _ | refine Below.alloc ?_ (by first | exact Nat.le_refl _ | (simp; done) | (simp; omega) | omega) _ | refine Below.setCell ?_ (by first | exact Nat.le_refl _ | (simp; done) | (simp; omega) | omega) _)))) (HSc.out.ext (by (unfold Ext; repeat (first | exact Below.refl _ _ | assumption | refine Below.drew ?_ | refine below_drewN ?_ _ | refine Below.alloc ?_ (by first | exact Nat.le_refl _ | (simp; done) | (simp; omega) | omega) _ | refine Below.setCell ?_ (by first | exact Nat.le_refl _ | (simp; done) | (simp; omega) | omega) _)))) (by have h0 := HL16.out; have h1 := HLc.out; omega)).mono ?_
  rintro e W26 ⟨⟨v17, rfl, hown⟩, hi, hxn⟩
  have hxx : Ext W25 W26 := Ext.trans (by (unfold Ext; repeat (first | exact Below.refl _ _ | assumption | refine Below.drew ?_ | refine below_drewN ?_ _ | refine Below.alloc ?_ (by first | exact Nat.le_refl _ | (simp; done) | (simp; omega) | omega) _ | refine Below.setCell ?_ (by first | exact Nat.le_refl _ | (simp; done) | (simp; omega) | omega) _))) hxn
  obtain ⟨L17, hL⟩ : ∃ L, ofL fOr L16 Lc = L := ⟨_, rfl⟩
  rw [hL] at hown hi
  have HSa := Lib.hid (HSa.out.ext hxx)
  have HSb := Lib.hid (HSb.out.ext hxx)
  have HSc := Lib.hid (HSc.out.ext hxx)
  have HS1 := Lib.hid (HS1.out.ext hxx)
  have HS2 := Lib.hid (HS2.out.ext hxx)
  have HS3 := Lib.hid (HS3.out.ext hxx)
  have HS4 := Lib.hid (HS4.out.ext hxx)
  have HS5 := Lib.hid (HS5.out.ext hxx)
  have HS6 := Lib.hid (HS6.out.ext hxx)
  have HS7 := Lib.hid (HS7.out.ext hxx)
  have HS8 := Lib.hid (HS8.out.ext hxx)
  have HS9 := Lib.hid (HS9.out.ext hxx)
  have HS10 := Lib.hid (HS10.out.ext hxx)
  have HS11 := Lib.hid (HS11.out.ext hxx)
  have HS12 := Lib.hid (HS12.out.ext hxx)
  have HS13 := Lib.hid (HS13.out.ext hxx)
  have HS14 := Lib.hid (HS14.out.ext hxx)
  have HS15 := Lib.hid (HS15.out.ext hxx)
  have HS16 := Lib.hid (HS16.out.ext hxx)
  have HX := Lib.hid (Ext.trans HX.out hxx)
  clear hxn hxx
  have HS17 := Lib.hid hown.sl
  have HI17 := hi
  have HL17 : Hid (L17.length ≤ 403) := Lib.hid (by have h := hi.out.len; have h1 := HL16.out; have h2 := HLc.out; omega)
  clear hown hi hL
  go_wp2_with fail
  refine (add_v _ _ Lb Lc _ (HSb.out.ext (by (unfold Ext; repeat (first | exact Below.refl _ _ | assumption | refine Below.drew ?_ | refine below_drewN ?_ _ | refine Below.alloc ?_ (by first | exact Nat.le_refl _ | (simp; done) | (simp; omega) | omega) _ | refine Below.setCell ?_ (by first | exact Nat.le_refl _ | (simp; done) | (simp; omega) | omega) _)))) (HSc.out.ext (by (unfold Ext; repeat (first | exact Below.refl _ _ | assumption | refine Below.drew ?_ | refine below_drewN ?_ _ | refine Below.alloc ?_ (by first | exact Nat.le_refl _ | (simp; done) | (simp; omega) | omega) _ | refine Below.setCell ?_ (by first | exact Nat.le_refl _ | (simp; done) | (simp; omega) | omega) _)))) (by have h0 := HLb.out; have h1 := HLc.out; omega)).mono ?_
  rintro e W27 ⟨⟨v18, rfl, hown⟩, hi, hxn⟩
  have hxx : Ext W26 W27 := Ext.trans (by (unfold Ext; repeat (first | exact Below.refl _ _ | assumption | refine Below.drew ?_ | refine below_drewN ?_ _ | refine Below.alloc ?_ (by first | exact Nat.le_refl _ | (simp; done) | (simp; omega) | omega) _ | refine Below.setCell ?_ (by first | exact Nat.le_refl _ | (simp; done) | (simp; omega) | omega) _))) hxn
  obtain ⟨L18, hL⟩ : ∃ L, ofL fOr Lb Lc = L := ⟨_, rfl⟩
  rw [hL] at hown hi
  have HSa := Lib.hid (HSa.out.ext hxx)
  have HSb := Lib.hid (HSb.out.ext hxx)
  have HSc := Lib.hid (HSc.out.ext hxx)
  have HS1 := Lib.hid (HS1.out.ext hxx)
  have HS2 := Lib.hid (HS2.out.ext hxx)
  have HS3 := Lib.hid (HS3.out.ext hxx)
  have HS4 := Lib.hid (HS4.out.ext hxx)
  have HS5 := Lib.hid (HS5.out.ext hxx)
  have HS6 := Lib.hid (HS6.out.ext hxx)
  have HS7 := Lib.hid (HS7.out.ext hxx)
  have HS8 := Lib.hid (HS8.out.ext hxx)
  have HS9 := Lib.hid (HS9.out.ext hxx)
  have HS10 := Lib.hid (HS10.out.ext hxx)
  have HS11 := Lib.hid (HS11.out.ext hxx)
  have HS12 := Lib.hid (HS12.out.ext hxx)
  have HS13 := Lib.hid (HS13.out.ext hxx)
  have HS14 := Lib.hid (HS14.out.ext hxx)
  have HS15 := Lib.hid (HS15.out.ext hxx)
  have HS16 := Lib.hid (HS16.out.ext hxx)
  have HS17 := Lib.hid (HS17.out.ext hxx)
  have HX := Lib.hid (Ext.trans HX.out hxx)
  clear hxn hxx
  have HS18 := Lib.hid hown.sl
  have HI18 := hi
  have HL18 : Hid (L18.length ≤ 161) := Lib.hid (by have h := hi.out.len; have h1 := HLb.out; have h2 := HLc.out; omega)
  clear hown hi hL
  go_wp2_with fail
  refine (add_v _ _ La L18 _ (HSa.out.ext (by (unfold Ext; repeat (first | exact Below.refl _ _ | assumption | refine Below.drew ?_ | refine below_drewN ?_ _ | refine Below.alloc ?_ (by first | exact Nat.le_refl _ | (simp; done) | (simp; omega) | omega) _ | refine Below.setCell ?_ (by first | exact Nat.le_refl _ | (simp; done) | (simp; omega) | omega) _)))) (HS18.out.ext (by (unfold Ext; repeat (first | exact Below.refl _ _ | assumption | refine Below.drew ?_ | refine below_drewN ?_ _ | refine Below.alloc ?_ (by first | exact Nat.le_refl _ | (simp; done) | (simp; omega) | omega) _ | refine Below.setCell ?_ (by first | exact Nat.le_refl _ | (simp; done) | (simp; omega) | omega) _)))) (by have h0 := HLa.out; have h1 := HL18.out; omega)).mono ?_
  rintro e W28 ⟨⟨v19, rfl, hown⟩, hi, hxn⟩
  have hxx : Ext W27 W28 := Ext.trans (by (unfold Ext; repeat (first | exact Below.refl _ _ | assumption | refine Below.drew ?_ | refine below_drewN ?_ _ | refine Below.alloc ?_ (by first | exact Nat.le_refl _ | (simp; done) | (simp; omega) | omega) _ | refine Below.setCell ?_ (by first | exact Nat.le_refl _ | (simp; done) | (simp; omega) | omega) _))) hxn
  obtain ⟨L19, hL⟩ : ∃ L, ofL fOr La L18 = L := ⟨_, rfl⟩
  rw [hL] at hown hi
  have HSa := Lib.hid (HSa.out.ext hxx)
  have HSb := Lib.hid (HSb.out.ext hxx)
  have HSc := Lib.hid (HSc.out.ext hxx)
  have HS1 := Lib.hid (HS1.out.ext hxx)
  have HS2 := Lib.hid (HS2.out.ext hxx)
  have HS3 := Lib.hid (HS3.out.ext hxx)
  have HS4 := Lib.hid (HS4.out.ext hxx)
  have HS5 := Lib.hid (HS5.out.ext hxx)
  have HS6 := Lib.hid (HS6.out.ext hxx)
  have HS7 := Lib.hid (HS7.out.ext hxx)
  have HS8 := Lib.hid (HS8.out.ext hxx)
  have HS9 := Lib.hid (HS9.out.ext hxx)
  have HS10 := Lib.hid (HS10.out.ext hxx)
  have HS11 := Lib.hid (HS11.out.ext hxx)
  have HS12 := Lib.hid (HS12.out.ext hxx)
  have HS13 := Lib.hid (HS13.out.ext hxx)
  have HS14 := Lib.hid (HS14.out.ext hxx)
  have HS15 := Lib.hid (HS15.out.ext hxx)
  have HS16 := Lib.hid (HS16.out.ext hxx)
  have HS17 := Lib.hid (HS17.out.ext hxx)
  have HS18 := Lib.hid (HS18.out.ext hxx)
  have HX := Lib.hid (Ext.trans HX.out hxx)
  clear hxn hxx
  have HS19 := Lib.hid hown.sl
  have HI19 := hi
  have HL19 : Hid (L19.length ≤ 403) := Lib.hid (by have h := hi.out.len; have h1 := HLa.out; have h2 := HL18.out; omega)
  clear hown hi hL
  go_wp2_with fail
  refine (same_v _ _ L17 L19 _ (HS17.out.ext (by (unfold Ext; repeat (first | exact Below.refl _ _ | assumption | refine Below.drew ?_ | refine below_drewN ?_ _ | refine Below.alloc ?_ (by first | exact Nat.le_refl _ | (simp; done) | (simp; omega) | omega) _ | refine Below.setCell ?_ (by first | exact Nat.le_refl _ | (simp; done) | (simp; omega) | omega) _)))) (HS19.out.ext (by (unfold Ext; repeat (first | exact Below.refl _ _ | assumption | refine Below.drew ?_ | refine below_drewN ?_ _ | refine Below.alloc ?_ (by first | exact Nat.le_refl _ | (simp; done) | (simp; omega) | omega) _ | refine Below.setCell ?_ (by first | exact Nat.le_refl _ | (simp; done) | (simp; omega) | omega) _))))).mono ?_
  rintro e W29 ⟨rfl, hxn⟩
  have hxx : Ext W28 W29 := Ext.trans (by (unfold Ext; repeat (first | exact Below.refl _ _ | assumption | refine Below.drew ?_ | refine below_drewN ?_ _ | refine Below.alloc ?_ (by first | exact Nat.le_refl _ | (simp; done) | (simp; omega) | omega) _ | refine Below.setCell ?_ (by first | exact Nat.le_refl _ | (simp; done) | (simp; omega) | omega) _))) hxn
  rw [decide_eq_true (show L17 = L19 from ordered_uniq HI17.out.ord HI19.out.ord (fun t => by simp only [HI17.out.set t, HI19.out.set t, HI18.out.set t, HI16.out.set t, fOr] <;> (cases hasB La t <;> cases hasB Lb t <;> cases hasB Lc t <;> rfl)))]
  have HSa := Lib.hid (HSa.out.ext hxx)
  have HSb := Lib.hid (HSb.out.ext hxx)
  have HSc := Lib.hid (HSc.out.ext hxx)
  have HS1 := Lib.hid (HS1.out.ext hxx)
  have HS2 := Lib.hid (HS2.out.ext hxx)
  have HS3 := Lib.hid (HS3.out.ext hxx)
  have HS4 := Lib.hid (HS4.out.ext hxx)
  have HS5 := Lib.hid (HS5.out.ext hxx)
  have HS6 := Lib.hid (HS6.out.ext hxx)
  have HS7 := Lib.hid (HS7.out.ext hxx)
  have HS8 := Lib.hid (HS8.out.ext hxx)
  have HS9 := Lib.hid (HS9.out.ext hxx)
  have HS10 := Lib.hid (HS10.out.ext hxx)
  have HS11 := Lib.hid (HS11.out.ext hxx)
  have HS12 := Lib.hid (HS12.out.ext hxx)
  have HS13 := Lib.hid (HS13.out.ext hxx)
  have HS14 := Lib.hid (HS14.out.ext hxx)
  have HS15 := Lib.hid (HS15.out.ext hxx)
  have HS16 := Lib.hid (HS16.out.ext hxx)
  have HS17 := Lib.hid (HS17.out.ext hxx)
  have HS18 := Lib.hid (HS18.out.ext hxx)
  have HS19 := Lib.hid (HS19.out.ext hxx)
  have HX := Lib.hid (Ext.trans HX.out hxx)
  clear hxn hxx
  go_wp2_with fail
  refine (add_v _ _ Lb Lc _ (HSb.out.ext (by (unfold Ext; repeat (first | exact Below.refl _ _ | assumption | refine Below.drew ?_ | refine below_drewN ?_ _ | refine Below.alloc ?_ (by first | exact Nat.le_refl _ | (simp; done) | (simp; omega) | omega) _ | refine Below.setCell ?_ (by first | exact Nat.le_refl _ | (simp; done) | (simp; omega) | omega) _)))) (HSc.out.ext (by (unfold Ext; repeat (first | exact Below.refl _ _ | assumption | refine Below.drew ?_ | refine below_drewN ?_ _ | refine Below.alloc ?_ (by first | exact Nat.le_refl _ | (simp; done) | (simp; omega) | omega) _ | refine Below.setCell ?_ (by first | exact Nat.le_refl _ | (simp; done) | (simp; omega) | omega) _)))) (by have h0 := HLb.out; have h1 := HLc.out; omega)).mono ?_
  rintro e W30 ⟨⟨v20, rfl, hown⟩, hi, hxn⟩
  have hxx : Ext W29 W30 := Ext.trans (by (unfold Ext; repeat (first | exact Below.refl _ _ | assumption | refine Below.drew ?_ | refine below_drewN ?_ _ | refine Below.alloc ?_ (by first | exact Nat.le_refl _ | (simp; done) | (simp; omega) | omega) _ | refine Below.setCell ?_ (by first | exact Nat.le_refl _ | (simp; done) | (simp; omega) | omega) _))) hxn
  obtain ⟨L20, hL⟩ : ∃ L, ofL fOr Lb Lc = L := ⟨_, rfl⟩
  rw [hL] at hown hi
  have HSa := Lib.hid (HSa.out.ext hxx)
  have HSb := Lib.hid (HSb.out.ext hxx)
  have HSc := Lib.hid (HSc.out.ext hxx)
  have HS1 := Lib.hid (HS1.out.ext hxx)
  have HS2 := Lib.hid (HS2.out.ext hxx)
  have HS3 := Lib.hid (HS3.out.ext hxx)
  have HS4 := Lib.hid (HS4.out.ext hxx)
  have HS5 := Lib.hid (HS5.out.ext hxx)
  have HS6 := Lib.hid (HS6.out.ext hxx)
  have HS7 := Lib.hid (HS7.out.ext hxx)
  have HS8 := Lib.hid (HS8.out.ext hxx)
  have HS9 := Lib.hid (HS9.out.ext hxx)
  have HS10 := Lib.hid (HS10.out.ext hxx)
  have HS11 := Lib.hid (HS11.out.ext hxx)
  have HS12 := Lib.hid (HS12.out.ext hxx)
  have HS13 := Lib.hid (HS13.out.ext hxx)
  have HS14 := Lib.hid (HS14.out.ext hxx)
  have HS15 := Lib.hid (HS15.out.ext hxx)
  have HS16 := Lib.hid (HS16.out.ext hxx)
  have HS17 := Lib.hid (HS17.out.ext hxx)
  have HS18 := Lib.hid (HS18.out.ext hxx)
  have HS19 := Lib.hid (HS19.out.ext hxx)
  have HX := Lib.hid (Ext.trans HX.out hxx)
  clear hxn hxx
  have HS20 := Lib.hid hown.sl
  have HI20 := hi
  have HL20 : Hid (L20.length ≤ 161) := Lib.hid (by have h := hi.out.len; have h1 := HLb.out; have h2 := HLc.out; omega)
  clear hown hi hL
  go_wp2_with fail
  refine (meet_v _ _ La L20 _ (HSa.out.ext (by (unfold Ext; repeat (first | exact Below.refl _ _ | assumption | refine Below.drew ?_ | refine below_drewN ?_ _ | refine Below.alloc ?_ (by first | exact Nat.le_refl _ | (simp; done) | (simp; omega) | omega) _ | refine Below.setCell ?_ (by first | exact Nat.le_refl _ | (simp; done) | (simp; omega) | omega) _)))) (HS20.out.ext (by (unfold Ext; repeat (first | exact Below.refl _ _ | assumption | refine Below.drew ?_ | refine below_drewN ?_ _ | refine Below.alloc ?_ (by first | exact Nat.le_refl _ | (simp; done) | (simp; omega) | omega) _ | refine Below.setCell ?_ (by first | exact Nat.le_refl _ | (simp; done) | (simp; omega) | omega) _)))) (by have h0 := HLa.out; have h1 := HL20.out; omega)).mono ?_
  rintro e W31 ⟨⟨v21, rfl, hown⟩, hi, hxn⟩
  have hxx : Ext W30 W31 := Ext.trans (by (unfold Ext; repeat (first | exact Below.refl _ _ | assumption | refine Below.drew ?_ | refine below_drewN ?_ _ | refine Below.alloc ?_ (by first | exact Nat.le_refl _ | (simp; done) | (simp; omega) | omega) _ | refine Below.setCell ?_ (by first | exact Nat.le_refl _ | (simp; done) | (simp; omega) | omega) _))) hxn
  obtain ⟨L21, hL⟩ : ∃ L, ofL fAnd La L20 = L := ⟨_, rfl⟩
  rw [hL] at hown hi
  have HSa := Lib.hid (HSa.out.ext hxx)
  have HSb := Lib.hid (HSb.out.ext hxx)
  have HSc := Lib.hid (HSc.out.ext hxx)
  have HS1 := Lib.hid (HS1.out.ext hxx)
  have HS2 := Lib.hid (HS2.out.ext hxx)
  have HS3 := Lib.hid (HS3.out.ext hxx)
  have HS4 := Lib.hid (HS4.out.ext hxx)
  have HS5 := Lib.hid (HS5.out.ext hxx)
  have HS6 := Lib.hid (HS6.out.ext hxx)
  have HS7 := Lib.hid (HS7.out.ext hxx)
  have HS8 := Lib.hid (HS8.out.ext hxx)
  have HS9 := Lib.hid (HS9.out.ext hxx)
  have HS10 := Lib.hid (HS10.out.ext hxx)
  have HS11 := Lib.hid (HS11.out.ext hxx)
  have HS12 := Lib.hid (HS12.out.ext hxx)
  have HS13 := Lib.hid (HS13.out.ext hxx)
  have HS14 := Lib.hid (HS14.out.ext hxx)
  have HS15 := Lib.hid (HS15.out.ext hxx)
  have HS16 := Lib.hid (HS16.out.ext hxx)
  have HS17 := Lib.hid (HS17.out.ext hxx)
  have HS18 := Lib.hid (HS18.out.ext hxx)
  have HS19 := Lib.hid (HS19.out.ext hxx)
  have HS20 := Lib.hid (HS20.out.ext hxx)
  have HX := Lib.hid (Ext.trans HX.out hxx)
  clear hxn hxx
  have HS21 := Lib.hid hown.sl
  have HI21 := hi
  have HL21 : Hid (L21.length ≤ 403) := Lib.hid (by have h := hi.out.len; have h1 := HLa.out; have h2 := HL20.out; omega)
  clear hown hi hL
  go_wp2_with fail
  refine (meet_v _ _ La Lc _ (HSa.out.ext (by (unfold Ext; repeat (first | exact Below.refl _ _ | assumption | refine Below.drew ?_ | refine below_drewN ?_ _ | refine Below.alloc ?_ (by first | exact Nat.le_refl _ | (simp; done) | (simp; omega) | omega) _ | refine Below.setCell ?_ (by first | exact Nat.le_refl _ | (simp; done) | (simp; omega) | omega) _)))) (HSc.out.ext (by (unfold Ext; repeat (first | exact Below.refl _ _ | assumption | refine Below.drew ?_ | refine below_drewN ?_ _ | refine Below.alloc ?_ (by first | exact Nat.le_refl _ | (simp; done) | (simp; omega) | omega) _ | refine Below.setCell ?_ (by first | exact Nat.le_refl _ | (simp; done) | (simp; omega) | omega) _)))) (by have h0 := HLa.out; have h1 := HLc.out; omega)).mono ?_
  rintro e W32 ⟨⟨v22, rfl, hown⟩, hi, hxn⟩
  have hxx : Ext W31 W32 := Ext.trans (by (unfold Ext; repeat (first | exact Below.refl _ _ | assumption | refine Below.drew ?_ | refine below_drewN ?_ _ | refine Below.alloc ?_ (by first | exact Nat.le_refl _ | (simp; done) | (simp; omega) | omega) _ | refine Below.setCell ?_ (by first | exact Nat.le_refl _ | (simp; done) | (simp; omega) | omega) _))) hxn
  obtain ⟨L22, hL⟩ : ∃ L, ofL fAnd La Lc = L := ⟨_, rfl⟩
  rw [hL] at hown hi
  have HSa := Lib.hid (HSa.out.ext hxx)
  have HSb := Lib.hid (HSb.out.ext hxx)
  have HSc := Lib.hid (HSc.out.ext hxx)
  have HS1 := Lib.hid (HS1.out.ext hxx)
  have HS2 := Lib.hid (HS2.out.ext hxx)
  have HS3 := Lib.hid (HS3.out.ext hxx)
  have HS4 := Lib.hid (HS4.out.ext hxx)
  have HS5 := Lib.hid (HS5.out.ext hxx)
  have HS6 := Lib.hid (HS6.out.ext hxx)
  have HS7 := Lib.hid (HS7.out.ext hxx)
  have HS8 := Lib.hid (HS8.out.ext hxx)
  have HS9 := Lib.hid (HS9.out.ext hxx)
  have HS10 := Lib.hid (HS10.out.ext hxx)
  have HS11 := Lib.hid (HS11.out.ext hxx)
  have HS12 := Lib.hid (HS12.out.ext hxx)
  have HS13 := Lib.hid (HS13.out.ext hxx)
  have HS14 := Lib.hid (HS14.out.ext hxx)
  have HS15 := Lib.hid (HS15.out.ext hxx)
  have HS16 := Lib.hid (HS16.out.ext hxx)
  have HS17 := Lib.hid (HS17.out.ext hxx)
  have HS18 := Lib.hid (HS18.out.ext hxx)
  have HS19 := Lib.hid (HS19.out.ext hxx)
  have HS20 := Lib.hid (HS20.out.ext hxx)
  have HS21 := Lib.hid (HS21.out.ext hxx)
  have HX := Lib.hid (Ext.trans HX.out hxx)
  clear hxn hxx
  have HS22 := Lib.hid hown.sl
  have HI22 := hi
  have HL22 : Hid (L22.length ≤ 161) := Lib.hid (by have h := hi.out.len; have h1 := HLa.out; have h2 := HLc.out; omega)
  clear hown hi hL
  go_wp2_with fail
  refine (add_v _ _ L2 L22 _ (HS2.out.ext (by (unfold Ext; repeat (first | exact Below.refl _ _ | assumption | refine Below.drew ?_ | refine below_drewN ?_ _ | refine Below.alloc ?_ (by first | exact Nat.le_refl _ | (simp; done) | (simp; omega) | omega) _ | refine Below.setCell ?_ (by first | exact Nat.le_refl _ | (simp; done) | (simp; omega) | omega) _)))) (HS22.out.ext (by (unfold Ext; repeat (first | exact Below.refl _ _ | assumption | refine Below.drew ?_ | refine below_drewN ?_ _ | refine Below.alloc ?_ (by first | exact Nat.le_refl _ | (simp; done) | (simp; omega) | omega) _ | refine Below.setCell ?_ (by first | exact Nat.le_refl _ | (simp; done) | (simp; omega) | omega) _)))) (by have h0 := HL2.out; have h1 := HL22.out; omega)).mono ?_
  rintro e W33 ⟨⟨v23, rfl, hown⟩, hi, hxn⟩
  have hxx : Ext W32 W33 := Ext.trans (by (unfold Ext; repeat (first | exact Below.refl _ _ | assumption | refine Below.drew ?_ | refine below_drewN ?_ _ | refine Below.alloc ?_ (by first | exact Nat.le_refl _ | (simp; done) | (simp; omega) | omega) _ | refine Below.setCell ?_ (by first | exact Nat.le_refl _ | (simp; done) | (simp; omega) | omega) _))) hxn
  obtain ⟨L23, hL⟩ : ∃ L, ofL fOr L2 L22 = L := ⟨_, rfl⟩
  rw [hL] at hown hi
  have HSa := Lib.hid (HSa.out.ext hxx)
  have HSb := Lib.hid (HSb.out.ext hxx)
  have HSc := Lib.hid (HSc.out.ext hxx)
  have HS1 := Lib.hid (HS1.out.ext hxx)
  have HS2 := Lib.hid (HS2.out.ext hxx)
  have HS3 := Lib.hid (HS3.out.ext hxx)
  have HS4 := Lib.hid (HS4.out.ext hxx)
  have HS5 := Lib.hid (HS5.out.ext hxx)
  have HS6 := Lib.hid (HS6.out.ext hxx)
  have HS7 := Lib.hid (HS7.out.ext hxx)
  have HS8 := Lib.hid (HS8.out.ext hxx)
  have HS9 := Lib.hid (HS9.out.ext hxx)
  have HS10 := Lib.hid (HS10.out.ext hxx)
  have HS11 := Lib.hid (HS11.out.ext hxx)
  have HS12 := Lib.hid (HS12.out.ext hxx)
  have HS13 := Lib.hid (HS13.out.ext hxx)
  have HS14 := Lib.hid (HS14.out.ext hxx)
  have HS15 := Lib.hid (HS15.out.ext hxx)
  have HS16 := Lib.hid (HS16.out.ext hxx)
  have HS17 := Lib.hid (HS17.out.ext hxx)
  have HS18 := Lib.hid (HS18.out.ext hxx)
  have HS19 := Lib.hid (HS19.out.ext hxx)
  have HS20 := Lib.hid (HS20.out.ext hxx)
  have HS21 := Lib.hid (HS21.out.ext hxx)
  have HS22 := Lib.hid (HS22.out.ext hxx)
  have HX := Lib.hid (Ext.trans HX.out hxx)
  clear hxn hxx
  have HS23 := Lib.hid hown.sl
  have HI23 := hi
  have HL23 : Hid (L23.length ≤ 645) := Lib.hid (by have h := hi.out.len; have h1 := HL2.out; have h2 := HL22.out; omega)
  clear hown hi hL
  go_wp2_with fail
  refine (same_v _ _ L21 L23 _ (HS21.out.ext (by (unfold Ext; repeat (first | exact Below.refl _ _ | assumption | refine Below.drew ?_ | refine below_drewN ?_ _ | refine Below.alloc ?_ (by first | exact Nat.le_refl _ | (simp; done) | (simp; omega) | omega) _ | refine Below.setCell ?_ (by first | exact Nat.le_refl _ | (simp; done) | (simp; omega) | omega) _)))) (HS23.out.ext (by (unfold Ext; repeat (first | exact Below.refl _ _ | assumption | refine Below.drew ?_ | refine below_drewN ?_ _ | refine Below.alloc ?_ (by first | exact Nat.le_refl _ | (simp; done) | (simp; omega) | omega) _ | refine Below.setCell ?_ (by first | exact Nat.le_refl _ | (simp; done) | (simp; omega) | omega) _))))).mono ?_
  rintro e W34 ⟨rfl, hxn⟩
  have hxx : Ext W33 W34 := Ext.trans (by (unfold Ext; repeat (first | exact Below.refl _ _ | assumption | refine Below.drew ?_ | refine below_drewN ?_ _ | refine Below.alloc ?_ (by first | exact Nat.le_refl _ | (simp; done) | (simp; omega) | omega) _ | refine Below.setCell ?_ (by first | exact Nat.le_refl _ | (simp; done) | (simp; omega) | omega) _))) hxn
  rw [decide_eq_true (show L21 = L23 from ordered_uniq HI21.out.ord HI23.out.ord (fun t => by simp only [HI21.out.set t, HI23.out.set t, HI20.out.set t, HI22.out.set t, HI2.out.set t, fAnd, fOr] <;> (cases hasB La t <;> cases hasB Lb t <;> cases hasB Lc t <;> rfl)))]
  have HSa := Lib.hid (HSa.out.ext hxx)
  have HSb := Lib.hid (HSb.out.ext hxx)
  have HSc := Lib.hid (HSc.out.ext hxx)
  have HS1 := Lib.hid (HS1.out.ext hxx)
  have HS2 := Lib.hid (HS2.out.ext hxx)
  have HS3 := Lib.hid (HS3.out.ext hxx)
  have HS4 := Lib.hid (HS4.out.ext hxx)
  have HS5 := Lib.hid (HS5.out.ext hxx)
  have HS6 := Lib.hid (HS6.out.ext hxx)
  have HS7 := Lib.hid (HS7.out.ext hxx)
  have HS8 := Lib.hid (HS8.out.ext hxx)
  have HS9 := Lib.hid (HS9.out.ext hxx)
  have HS10 := Lib.hid (HS10.out.ext hxx)
  have HS11 := Lib.hid (HS11.out.ext hxx)
  have HS12 := Lib.hid (HS12.out.ext hxx)
  have HS13 := Lib.hid (HS13.out.ext hxx)
  have HS14 := Lib.hid (HS14.out.ext hxx)
  have HS15 := Lib.hid (HS15.out.ext hxx)
  have HS16 := Lib.hid (HS16.out.ext hxx)
  have HS17 := Lib.hid (HS17.out.ext hxx)
  have HS18 := Lib.hid (HS18.out.ext hxx)
  have HS19 := Lib.hid (HS19.out.ext hxx)
  have HS20 := Lib.hid (HS20.out.ext hxx)
  have HS21 := Lib.hid (HS21.out.ext hxx)
  have HS22 := Lib.hid (HS22.out.ext hxx)
  have HS23 := Lib.hid (HS23.out.ext hxx)
  have HX := Lib.hid (Ext.trans HX.out hxx)
  clear hxn hxx
  go_wp2
  go_ret
  exact ⟨rfl, Ext.trans HX.out (by (unfold Ext; repeat (first | exact Below.refl _ _ | assumption | refine Below.drew ?_ | refine below_drewN ?_ _ | refine Below.alloc ?_ (by first | exact Nat.le_refl _ | (simp; done) | (simp; omega) | omega) _ | refine Below.setCell ?_ (by first | exact Nat.le_refl _ | (simp; done) | (simp; omega) | omega) _)))⟩
end Go.Proofs.Ytdpaagingfeoeaa.Sp
