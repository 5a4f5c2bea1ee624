/- Spans: the statement SpanTells. -/
import Derived.Test.YtdpaagingfeoeaaSpanI
namespace Go.Proofs.Ytdpaagingfeoeaa.Sp
open Go.RowKit Go.Proofs.Ytdpaagingfeoeaa
set_option linter.unusedVariables false

set_option maxRecDepth 100000 in
set_option maxHeartbeats 8000000 in
theorem tells_walk {p0 : Option Addr} {n0 c0 : Nat} {l0 : List Span} {p1 : Option Addr} {n1 c1 : Nat} {l1 : List Span} {w : World} (h0 : LSpan.Row w p0 n0 l0) (f0 : n0 ≤ c0) (m0 : c0 ≤ 9223372036854775807) (g0 : Pl p0 c0) (h1 : LSpan.Row w p1 n1 l1) (f1 : n1 ≤ c1) (m1 : c1 ≤ 9223372036854775807) (g1 : Pl p1 c1) (at_ : Int) :
    Calls Try.prog 3 #[.slice p0 n0 c0, .slice p1 n1 c1, .int .i64 at_] w fun e w' => e = .returned (.bool true) ∧ Ext w w' := by
  have HSx : Hid (LSpan.Sl w (.slice p0 n0 c0) l0) := Lib.hid ⟨p0, n0, c0, rfl, h0, f0, m0, g0⟩
  have HSy : Hid (LSpan.Sl w (.slice p1 n1 c1) l1) := Lib.hid ⟨p1, n1, c1, rfl, h1, f1, m1, g1⟩
  have HX : Hid (Ext w w) := Lib.hid (Ext.refl _)
  clear h0 g0 h1 g1
  go_enter Try.func3, Try.ntmps3
  go_wp2_with fail
  refine (head_any _).mono ?_
  rintro e W1 ⟨rfl, hxn⟩
  have hxx : Ext w W1 := Ext.trans (by (unfold Ext; repeat (first | exact Below.refl _ _ | assumption | refine Below.drew ?_ | refine below_drewN ?_ _ | refine Below.alloc ?_ (by first | exact Nat.le_refl _ | (simp; done) | (simp; omega) | omega) _ | refine Below.setCell ?_ (by first | exact Nat.le_refl _ | (simp; done) | (simp; omega) | omega) _))) hxn
  have HSx := Lib.hid (HSx.out.ext hxx)
  have HSy := Lib.hid (HSy.out.ext hxx)
  have HX := Lib.hid (Ext.trans HX.out hxx)
  clear hxn hxx
  go_wp2_with fail
  refine (few_v _ l0 _ (HSx.out.ext (by (unfold Ext; repeat (first | exact Below.refl _ _ | assumption | refine Below.drew ?_ | refine below_drewN ?_ _ | refine Below.alloc ?_ (by first | exact Nat.le_refl _ | (simp; done) | (simp; omega) | omega) _ | refine Below.setCell ?_ (by first | exact Nat.le_refl _ | (simp; done) | (simp; omega) | omega) _))))).mono ?_
  rintro e W2 ⟨⟨va, rfl, hown⟩, hxn⟩
  have hxx : Ext W1 W2 := Ext.trans (by (unfold Ext; repeat (first | exact Below.refl _ _ | assumption | refine Below.drew ?_ | refine below_drewN ?_ _ | refine Below.alloc ?_ (by first | exact Nat.le_refl _ | (simp; done) | (simp; omega) | omega) _ | refine Below.setCell ?_ (by first | exact Nat.le_refl _ | (simp; done) | (simp; omega) | omega) _))) hxn
  obtain ⟨La, hL⟩ : ∃ L, l0.take 40 = L := ⟨_, rfl⟩
  rw [hL] at hown
  have HSx := Lib.hid (HSx.out.ext hxx)
  have HSy := Lib.hid (HSy.out.ext hxx)
  have HX := Lib.hid (Ext.trans HX.out hxx)
  clear hxn hxx
  have HLa : Hid (La.length ≤ 40) := Lib.hid (by rw [← hL]; simp; omega)
  have HSa := Lib.hid hown.sl
  clear hown hL
  go_wp2_with fail
  refine (few_v _ l1 _ (HSy.out.ext (by (unfold Ext; repeat (first | exact Below.refl _ _ | assumption | refine Below.drew ?_ | refine below_drewN ?_ _ | refine Below.alloc ?_ (by first | exact Nat.le_refl _ | (simp; done) | (simp; omega) | omega) _ | refine Below.setCell ?_ (by first | exact Nat.le_refl _ | (simp; done) | (simp; omega) | omega) _))))).mono ?_
  rintro e W3 ⟨⟨vb, rfl, hown⟩, hxn⟩
  have hxx : Ext W2 W3 := Ext.trans (by (unfold Ext; repeat (first | exact Below.refl _ _ | assumption | refine Below.drew ?_ | refine below_drewN ?_ _ | refine Below.alloc ?_ (by first | exact Nat.le_refl _ | (simp; done) | (simp; omega) | omega) _ | refine Below.setCell ?_ (by first | exact Nat.le_refl _ | (simp; done) | (simp; omega) | omega) _))) hxn
  obtain ⟨Lb, hL⟩ : ∃ L, l1.take 40 = L := ⟨_, rfl⟩
  rw [hL] at hown
  have HSy := Lib.hid (HSy.out.ext hxx)
  have HSa := Lib.hid (HSa.out.ext hxx)
  have HX := Lib.hid (Ext.trans HX.out hxx)
  clear hxn hxx
  have HLb : Hid (Lb.length ≤ 40) := Lib.hid (by rw [← hL]; simp; omega)
  have HSb := Lib.hid hown.sl
  clear hown hL
  go_wp2_with fail
  refine (norm_v _ La _ (HSa.out.ext (by (unfold Ext; repeat (first | exact Below.refl _ _ | assumption | refine Below.drew ?_ | refine below_drewN ?_ _ | refine Below.alloc ?_ (by first | exact Nat.le_refl _ | (simp; done) | (simp; omega) | omega) _ | refine Below.setCell ?_ (by first | exact Nat.le_refl _ | (simp; done) | (simp; omega) | omega) _)))) (by have h0 := HLa.out; omega)).mono ?_
  rintro e W4 ⟨⟨v1, rfl, hown⟩, hi, hxn⟩
  have hxx : Ext W3 W4 := Ext.trans (by (unfold Ext; repeat (first | exact Below.refl _ _ | assumption | refine Below.drew ?_ | refine below_drewN ?_ _ | refine Below.alloc ?_ (by first | exact Nat.le_refl _ | (simp; done) | (simp; omega) | omega) _ | refine Below.setCell ?_ (by first | exact Nat.le_refl _ | (simp; done) | (simp; omega) | omega) _))) hxn
  obtain ⟨L1, hL⟩ : ∃ L, ofL fOr La [] = L := ⟨_, rfl⟩
  rw [hL] at hown hi
  have HSa := Lib.hid (HSa.out.ext hxx)
  have HSb := Lib.hid (HSb.out.ext hxx)
  have HX := Lib.hid (Ext.trans HX.out hxx)
  clear hxn hxx
  have HS1 := Lib.hid hown.sl
  have HI1 := hi
  have HL1 : Hid (L1.length ≤ 81) := Lib.hid (by have h := hi.out.len; have h1 := HLa.out; simp only [List.length_nil, Nat.add_zero] at h; omega)
  clear hown hi hL
  go_wp2_with fail
  refine (rnorm_v _ La _ (HSa.out.ext (by (unfold Ext; repeat (first | exact Below.refl _ _ | assumption | refine Below.drew ?_ | refine below_drewN ?_ _ | refine Below.alloc ?_ (by first | exact Nat.le_refl _ | (simp; done) | (simp; omega) | omega) _ | refine Below.setCell ?_ (by first | exact Nat.le_refl _ | (simp; done) | (simp; omega) | omega) _)))) (by have h0 := HLa.out; omega)).mono ?_
  rintro e W5 ⟨⟨v2, rfl, hown⟩, hi, hxn⟩
  have hxx : Ext W4 W5 := Ext.trans (by (unfold Ext; repeat (first | exact Below.refl _ _ | assumption | refine Below.drew ?_ | refine below_drewN ?_ _ | refine Below.alloc ?_ (by first | exact Nat.le_refl _ | (simp; done) | (simp; omega) | omega) _ | refine Below.setCell ?_ (by first | exact Nat.le_refl _ | (simp; done) | (simp; omega) | omega) _))) hxn
  obtain ⟨L2, hL⟩ : ∃ L, ofL fOr La [] = L := ⟨_, rfl⟩
  rw [hL] at hown hi
  have HSa := Lib.hid (HSa.out.ext hxx)
  have HSb := Lib.hid (HSb.out.ext hxx)
  have HS1 := Lib.hid (HS1.out.ext hxx)
  have HX := Lib.hid (Ext.trans HX.out hxx)
  clear hxn hxx
  have HS2 := Lib.hid hown.sl
  have HI2 := hi
  have HL2 : Hid (L2.length ≤ 81) := Lib.hid (by have h := hi.out.len; have h1 := HLa.out; simp only [List.length_nil, Nat.add_zero] at h; omega)
  clear hown hi hL
  go_wp2_with fail
  refine (same_v _ _ L1 L2 _ (HS1.out.ext (by (unfold Ext; repeat (first | exact Below.refl _ _ | assumption | refine Below.drew ?_ | refine below_drewN ?_ _ | refine Below.alloc ?_ (by first | exact Nat.le_refl _ | (simp; done) | (simp; omega) | omega) _ | refine Below.setCell ?_ (by first | exact Nat.le_refl _ | (simp; done) | (simp; omega) | omega) _)))) (HS2.out.ext (by (unfold Ext; repeat (first | exact Below.refl _ _ | assumption | refine Below.drew ?_ | refine below_drewN ?_ _ | refine Below.alloc ?_ (by first | exact Nat.le_refl _ | (simp; done) | (simp; omega) | omega) _ | refine Below.setCell ?_ (by first | exact Nat.le_refl _ | (simp; done) | (simp; omega) | omega) _))))).mono ?_
  rintro e W6 ⟨rfl, hxn⟩
  have hxx : Ext W5 W6 := Ext.trans (by (unfold Ext; repeat (first | exact Below.refl _ _ | assumption | refine Below.drew ?_ | refine below_drewN ?_ _ | refine Below.alloc ?_ (by first | exact Nat.le_refl _ | (simp; done) | (simp; omega) | omega) _ | refine Below.setCell ?_ (by first | exact Nat.le_refl _ | (simp; done) | (simp; omega) | omega) _))) hxn
  rw [decide_eq_true (show L1 = L2 from HI1.out.eq HI2.out)]
  have HSa := Lib.hid (HSa.out.ext hxx)
  have HSb := Lib.hid (HSb.out.ext hxx)
  have HS1 := Lib.hid (HS1.out.ext hxx)
  have HS2 := Lib.hid (HS2.out.ext hxx)
  have HX := Lib.hid (Ext.trans HX.out hxx)
  clear hxn hxx
  go_wp2_with fail
  refine (add_v _ _ La Lb _ (HSa.out.ext (by (unfold Ext; repeat (first | exact Below.refl _ _ | assumption | refine Below.drew ?_ | refine below_drewN ?_ _ | refine Below.alloc ?_ (by first | exact Nat.le_refl _ | (simp; done) | (simp; omega) | omega) _ | refine Below.setCell ?_ (by first | exact Nat.le_refl _ | (simp; done) | (simp; omega) | omega) _)))) (HSb.out.ext (by (unfold Ext; repeat (first | exact Below.refl _ _ | assumption | refine Below.drew ?_ | refine below_drewN ?_ _ | refine Below.alloc ?_ (by first | exact Nat.le_refl _ | (simp; done) | (simp; omega) | omega) _ | refine Below.setCell ?_ (by first | exact Nat.le_refl _ | (simp; done) | (simp; omega) | omega) _)))) (by have h0 := HLa.out; have h1 := HLb.out; omega)).mono ?_
  rintro e W7 ⟨⟨v3, rfl, hown⟩, hi, hxn⟩
  have hxx : Ext W6 W7 := Ext.trans (by (unfold Ext; repeat (first | exact Below.refl _ _ | assumption | refine Below.drew ?_ | refine below_drewN ?_ _ | refine Below.alloc ?_ (by first | exact Nat.le_refl _ | (simp; done) | (simp; omega) | omega) _ | refine Below.setCell ?_ (by first | exact Nat.le_refl _ | (simp; done) | (simp; omega) | omega) _))) hxn
  obtain ⟨L3, hL⟩ : ∃ L, ofL fOr La Lb = L := ⟨_, rfl⟩
  rw [hL] at hown hi
  have HSa := Lib.hid (HSa.out.ext hxx)
  have HSb := Lib.hid (HSb.out.ext hxx)
  have HS1 := Lib.hid (HS1.out.ext hxx)
  have HS2 := Lib.hid (HS2.out.ext hxx)
  have HX := Lib.hid (Ext.trans HX.out hxx)
  clear hxn hxx
  have HS3 := Lib.hid hown.sl
  have HI3 := hi
  have HL3 : Hid (L3.length ≤ 161) := Lib.hid (by have h := hi.out.len; have h1 := HLa.out; have h2 := HLb.out; omega)
  clear hown hi hL
  go_wp2_with fail
  refine (radd_v _ _ La Lb _ (HSa.out.ext (by (unfold Ext; repeat (first | exact Below.refl _ _ | assumption | refine Below.drew ?_ | refine below_drewN ?_ _ | refine Below.alloc ?_ (by first | exact Nat.le_refl _ | (simp; done) | (simp; omega) | omega) _ | refine Below.setCell ?_ (by first | exact Nat.le_refl _ | (simp; done) | (simp; omega) | omega) _)))) (HSb.out.ext (by (unfold Ext; repeat (first | exact Below.refl _ _ | assumption | refine Below.drew ?_ | refine below_drewN ?_ _ | refine Below.alloc ?_ (by first | exact Nat.le_refl _ | (simp; done) | (simp; omega) | omega) _ | refine Below.setCell ?_ (by first | exact Nat.le_refl _ | (simp; done) | (simp; omega) | omega) _)))) (by have h0 := HLa.out; have h1 := HLb.out; omega)).mono ?_
  rintro e W8 ⟨⟨v4, rfl, hown⟩, hi, hxn⟩
  have hxx : Ext W7 W8 := Ext.trans (by (unfold Ext; repeat (first | exact Below.refl _ _ | assumption | refine Below.drew ?_ | refine below_drewN ?_ _ | refine Below.alloc ?_ (by first | exact Nat.le_refl _ | (simp; done) | (simp; omega) | omega) _ | refine Below.setCell ?_ (by first | exact Nat.le_refl _ | (simp; done) | (simp; omega) | omega) _))) hxn
  obtain ⟨L4, hL⟩ : ∃ L, ofL fOr La Lb = L := ⟨_, rfl⟩
  rw [hL] at hown hi
  have HSa := Lib.hid (HSa.out.ext hxx)
  have HSb := Lib.hid (HSb.out.ext hxx)
  have HS1 := Lib.hid (HS1.out.ext hxx)
  have HS2 := Lib.hid (HS2.out.ext hxx)
  have HS3 := Lib.hid (HS3.out.ext hxx)
  have HX := Lib.hid (Ext.trans HX.out hxx)
  clear hxn hxx
  have HS4 := Lib.hid hown.sl
  have HI4 := hi
  have HL4 : Hid (L4.length ≤ 161) := Lib.hid (by have h := hi.out.len; have h1 := HLa.out; have h2 := HLb.out; omega)
  clear hown hi hL
  go_wp2_with fail
  refine (same_v _ _ L3 L4 _ (HS3.out.ext (by (unfold Ext; repeat (first | exact Below.refl _ _ | assumption | refine Below.drew ?_ | refine below_drewN ?_ _ | refine Below.alloc ?_ (by first | exact Nat.le_refl _ | (simp; done) | (simp; omega) | omega) _ | refine Below.setCell ?_ (by first | exact Nat.le_refl _ | (simp; done) | (simp; omega) | omega) _)))) (HS4.out.ext (by (unfold Ext; repeat (first | exact Below.refl _ _ | assumption | refine Below.drew ?_ | refine below_drewN ?_ _ | refine Below.alloc ?_ (by first | exact Nat.le_refl _ | (simp; done) | (simp; omega) | omega) _ | refine Below.setCell ?_ (by first | exact Nat.le_refl _ | (simp; done) | (simp; omega) | omega) _))))).mono ?_
  rintro e W9 ⟨rfl, hxn⟩
  have hxx : Ext W8 W9 := Ext.trans (by (unfold Ext; repeat (first | exact Below.refl _ _ | assumption | refine Below.drew ?_ | refine below_drewN ?_ _ | refine Below.alloc ?_ (by first | exact Nat.le_refl _ | (simp; done) | (simp; omega) | omega) _ | refine Below.setCell ?_ (by first | exact Nat.le_refl _ | (simp; done) | (simp; omega) | omega) _))) hxn
  rw [decide_eq_true (show L3 = L4 from HI3.out.eq HI4.out)]
  have HSa := Lib.hid (HSa.out.ext hxx)
  have HSb := Lib.hid (HSb.out.ext hxx)
  have HS1 := Lib.hid (HS1.out.ext hxx)
  have HS2 := Lib.hid (HS2.out.ext hxx)
  have HS3 := Lib.hid (HS3.out.ext hxx)
  have HS4 := Lib.hid (HS4.out.ext hxx)
  have HX := Lib.hid (Ext.trans HX.out hxx)
  clear hxn hxx
  go_wp2_with fail
  refine (cut_v _ _ La Lb _ (HSa.out.ext (by (unfold Ext; repeat (first | exact Below.refl _ _ | assumption | refine Below.drew ?_ | refine below_drewN ?_ _ | refine Below.alloc ?_ (by first | exact Nat.le_refl _ | (simp; done) | (simp; omega) | omega) _ | refine Below.setCell ?_ (by first | exact Nat.le_refl _ | (simp; done) | (simp; omega) | omega) _)))) (HSb.out.ext (by (unfold Ext; repeat (first | exact Below.refl _ _ | assumption | refine Below.drew ?_ | refine below_drewN ?_ _ | refine Below.alloc ?_ (by first | exact Nat.le_refl _ | (simp; done) | (simp; omega) | omega) _ | refine Below.setCell ?_ (by first | exact Nat.le_refl _ | (simp; done) | (simp; omega) | omega) _)))) (by have h0 := HLa.out; have h1 := HLb.out; omega)).mono ?_
  rintro e W10 ⟨⟨v5, rfl, hown⟩, hi, hxn⟩
  have hxx : Ext W9 W10 := Ext.trans (by (unfold Ext; repeat (first | exact Below.refl _ _ | assumption | refine Below.drew ?_ | refine below_drewN ?_ _ | refine Below.alloc ?_ (by first | exact Nat.le_refl _ | (simp; done) | (simp; omega) | omega) _ | refine Below.setCell ?_ (by first | exact Nat.le_refl _ | (simp; done) | (simp; omega) | omega) _))) hxn
  obtain ⟨L5, hL⟩ : ∃ L, ofL fCut La Lb = L := ⟨_, rfl⟩
  rw [hL] at hown hi
  have HSa := Lib.hid (HSa.out.ext hxx)
  have HSb := Lib.hid (HSb.out.ext hxx)
  have HS1 := Lib.hid (HS1.out.ext hxx)
  have HS2 := Lib.hid (HS2.out.ext hxx)
  have HS3 := Lib.hid (HS3.out.ext hxx)
  have HS4 := Lib.hid (HS4.out.ext hxx)
  have HX := Lib.hid (Ext.trans HX.out hxx)
  clear hxn hxx
  have HS5 := Lib.hid hown.sl
  have HI5 := hi
  have HL5 : Hid (L5.length ≤ 161) := Lib.hid (by have h := hi.out.len; have h1 := HLa.out; have h2 := HLb.out; omega)
  clear hown hi hL
  go_wp2_with fail
  refine (rcut_v _ _ La Lb _ (HSa.out.ext (by (unfold Ext; repeat (first | exact Below.refl _ _ | assumption | refine Below.drew ?_ | refine below_drewN ?_ _ | refine Below.alloc ?_ (by first | exact Nat.le_refl _ | (simp; done) | (simp; omega) | omega) _ | refine Below.setCell ?_ (by first | exact Nat.le_refl _ | (simp; done) | (simp; omega) | omega) _)))) (HSb.out.ext (by (unfold Ext; repeat (first | exact Below.refl _ _ | assumption | refine Below.drew ?_ | refine below_drewN ?_ _ | refine Below.alloc ?_ (by first | exact Nat.le_refl _ | (simp; done) | (simp; omega) | omega) _ | refine Below.setCell ?_ (by first | exact Nat.le_refl _ | (simp; done) | (simp; omega) | omega) _)))) (by have h0 := HLa.out; have h1 := HLb.out; omega)).mono ?_
  rintro e W11 ⟨⟨v6, rfl, hown⟩, hi, hxn⟩
  have hxx : Ext W10 W11 := Ext.trans (by (unfold Ext; repeat (first | exact Below.refl _ _ | assumption | refine Below.drew ?_ | refine below_drewN ?_ _ | refine Below.alloc ?_ (by first | exact Nat.le_refl _ | (simp; done) | (simp; omega) | omega) _ | refine Below.setCell ?_ (by first | exact Nat.le_refl _ | (simp; done) | (simp; omega) | omega) _))) hxn
  obtain ⟨L6, hL⟩ : ∃ L, ofL fCut La Lb = L := ⟨_, rfl⟩
  rw [hL] at hown hi
  have HSa := Lib.hid (HSa.out.ext hxx)
  have HSb := Lib.hid (HSb.out.ext hxx)
  have HS1 := Lib.hid (HS1.out.ext hxx)
  have HS2 := Lib.hid (HS2.out.ext hxx)
  have HS3 := Lib.hid (HS3.out.ext hxx)
  have HS4 := Lib.hid (HS4.out.ext hxx)
  have HS5 := Lib.hid (HS5.out.ext hxx)
  have HX := Lib.hid (Ext.trans HX.out hxx)
  clear hxn hxx
  have HS6 := Lib.hid hown.sl
  have HI6 := hi
  have HL6 : Hid (L6.length ≤ 161) := Lib.hid (by have h := hi.out.len; have h1 := HLa.out; have h2 := HLb.out; omega)
  clear hown hi hL
  go_wp2_with fail
  refine (same_v _ _ L5 L6 _ (HS5.out.ext (by (unfold Ext; repeat (first | exact Below.refl _ _ | assumption | refine Below.drew ?_ | refine below_drewN ?_ _ | refine Below.alloc ?_ (by first | exact Nat.le_refl _ | (simp; done) | (simp; omega) | omega) _ | refine Below.setCell ?_ (by first | exact Nat.le_refl _ | (simp; done) | (simp; omega) | omega) _)))) (HS6.out.ext (by (unfold Ext; repeat (first | exact Below.refl _ _ | assumption | refine Below.drew ?_ | refine below_drewN ?_ _ | refine Below.alloc ?_ (by first | exact Nat.le_refl _ | (simp; done) | (simp; omega) | omega) _ | refine Below.setCell ?_ (by first | exact Nat.le_refl _ | (simp; done) | (simp; omega) | omega) _))))).mono ?_
  rintro e W12 ⟨rfl, hxn⟩
  have hxx : Ext W11 W12 := Ext.trans (by (unfold Ext; repeat (first | exact Below.refl _ _ | assumption | refine Below.drew ?_ | refine below_drewN ?_ _ | refine Below.alloc ?_ (by first | exact Nat.le_refl _ | (simp; done) | (simp; omega) | omega) _ | refine Below.setCell ?_ (by first | exact Nat.le_refl _ | (simp; done) | (simp; omega) | omega) _))) hxn
  rw [decide_eq_true (show L5 = L6 from HI5.out.eq HI6.out)]
  have HSa := Lib.hid (HSa.out.ext hxx)
  have HSb := Lib.hid (HSb.out.ext hxx)
  have HS1 := Lib.hid (HS1.out.ext hxx)
  have HS2 := Lib.hid (HS2.out.ext hxx)
  have HS3 := Lib.hid (HS3.out.ext hxx)
  have HS4 := Lib.hid (HS4.out.ext hxx)
  have HS5 := Lib.hid (HS5.out.ext hxx)
  have HS6 := Lib.hid (HS6.out.ext hxx)
  have HX := Lib.hid (Ext.trans HX.out hxx)
  clear hxn hxx
  go_wp2_with fail
  refine (meet_v _ _ La Lb _ (HSa.out.ext (by (unfold Ext; repeat (first | exact Below.refl _ _ | assumption | refine Below.drew ?_ | refine below_drewN ?_ _ | refine Below.alloc ?_ (by first | exact Nat.le_refl _ | (simp; done) | (simp; omega) | omega) _ | refine Below.setCell ?_ (by first | exact Nat.le_refl _ | (simp; done) | (simp; omega) | omega) _)))) (HSb.out.ext (by (unfold Ext; repeat (first | exact Below.refl _ _ | assumption | refine Below.drew ?_ | refine below_drewN ?_ _ | refine Below.alloc ?_ (by first | exact Nat.le_refl _ | (simp; done) | (simp; omega) | omega) _ | refine Below.setCell ?_ (by first | exact Nat.le_refl _ | (simp; done) | (simp; omega) | omega) _)))) (by have h0 := HLa.out; have h1 := HLb.out; omega)).mono ?_
  rintro e W13 ⟨⟨v7, rfl, hown⟩, hi, hxn⟩
  have hxx : Ext W12 W13 := Ext.trans (by (unfold Ext; repeat (first | exact Below.refl _ _ | assumption | refine Below.drew ?_ | refine below_drewN ?_ _ | refine Below.alloc ?_ (by first | exact Nat.le_refl _ | (simp; done) | (simp; omega) | omega) _ | refine Below.setCell ?_ (by first | exact Nat.le_refl _ | (simp; done) | (simp; omega) | omega) _))) hxn
  obtain ⟨L7, hL⟩ : ∃ L, ofL fAnd La Lb = L := ⟨_, rfl⟩
  rw [hL] at hown hi
  have HSa := Lib.hid (HSa.out.ext hxx)
  have HSb := Lib.hid (HSb.out.ext hxx)
  have HS1 := Lib.hid (HS1.out.ext hxx)
  have HS2 := Lib.hid (HS2.out.ext hxx)
  have HS3 := Lib.hid (HS3.out.ext hxx)
  have HS4 := Lib.hid (HS4.out.ext hxx)
  have HS5 := Lib.hid (HS5.out.ext hxx)
  have HS6 := Lib.hid (HS6.out.ext hxx)
  have HX := Lib.hid (Ext.trans HX.out hxx)
  clear hxn hxx
  have HS7 := Lib.hid hown.sl
  have HI7 := hi
  have HL7 : Hid (L7.length ≤ 161) := Lib.hid (by have h := hi.out.len; have h1 := HLa.out; have h2 := HLb.out; omega)
  clear hown hi hL
  go_wp2_with fail
  refine (rmeet_v _ _ La Lb _ (HSa.out.ext (by (unfold Ext; repeat (first | exact Below.refl _ _ | assumption | refine Below.drew ?_ | refine below_drewN ?_ _ | refine Below.alloc ?_ (by first | exact Nat.le_refl _ | (simp; done) | (simp; omega) | omega) _ | refine Below.setCell ?_ (by first | exact Nat.le_refl _ | (simp; done) | (simp; omega) | omega) _)))) (HSb.out.ext (by (unfold Ext; repeat (first | exact Below.refl _ _ | assumption | refine Below.drew ?_ | refine below_drewN ?_ _ | refine Below.alloc ?_ (by first | exact Nat.le_refl _ | (simp; done) | (simp; omega) | omega) _ | refine Below.setCell ?_ (by first | exact Nat.le_refl _ | (simp; done) | (simp; omega) | omega) _)))) (by have h0 := HLa.out; have h1 := HLb.out; omega)).mono ?_
  rintro e W14 ⟨⟨v8, rfl, hown⟩, hi, hxn⟩
  have hxx : Ext W13 W14 := Ext.trans (by (unfold Ext; repeat (first | exact Below.refl _ _ | assumption | refine Below.drew ?_ | refine below_drewN ?_ _ | refine Below.alloc ?_ (by first | exact Nat.le_refl _ | (simp; done) | (simp; omega) | omega) _ | refine Below.setCell ?_ (by first | exact Nat.le_refl _ | (simp; done) | (simp; omega) | omega) _))) hxn
  obtain ⟨L8, hL⟩ : ∃ L, ofL fAnd La Lb = L := ⟨_, rfl⟩
  rw [hL] at hown hi
  have HSa := Lib.hid (HSa.out.ext hxx)
  have HSb := Lib.hid (HSb.out.ext hxx)
  have HS1 := Lib.hid (HS1.out.ext hxx)
  have HS2 := Lib.hid (HS2.out.ext hxx)
  have HS3 := Lib.hid (HS3.out.ext hxx)
  have HS4 := Lib.hid (HS4.out.ext hxx)
  have HS5 := Lib.hid (HS5.out.ext hxx)
  have HS6 := Lib.hid (HS6.out.ext hxx)
  have HS7 := Lib.hid (HS7.out.ext hxx)
  have HX := Lib.hid (Ext.trans HX.out hxx)
  clear hxn hxx
  have HS8 := Lib.hid hown.sl
  have HI8 := hi
  have HL8 : Hid (L8.length ≤ 161) := Lib.hid (by have h := hi.out.len; have h1 := HLa.out; have h2 := HLb.out; omega)
  clear hown hi hL
  go_wp2_with fail
  refine (same_v _ _ L7 L8 _ (HS7.out.ext (by (unfold Ext; repeat (first | exact Below.refl _ _ | assumption | refine Below.drew ?_ | refine below_drewN ?_ _ | refine Below.alloc ?_ (by first | exact Nat.le_refl _ | (simp; done) | (simp; omega) | omega) _ | refine Below.setCell ?_ (by first | exact Nat.le_refl _ | (simp; done) | (simp; omega) | omega) _)))) (HS8.out.ext (by (unfold Ext; repeat (first | exact Below.refl _ _ | assumption | refine Below.drew ?_ | refine below_drewN ?_ _ | refine Below.alloc ?_ (by first | exact Nat.le_refl _ | (simp; done) | (simp; omega) | omega) _ | refine Below.setCell ?_ (by first | exact Nat.le_refl _ | (simp; done) | (simp; omega) | omega) _))))).mono ?_
  rintro e W15 ⟨rfl, hxn⟩
  have hxx : Ext W14 W15 := Ext.trans (by (unfold Ext; repeat (first | exact Below.refl _ _ | assumption | refine Below.drew ?_ | refine below_drewN ?_ _ | refine Below.alloc ?_ (by first | exact Nat.le_refl _ | (simp; done) | (simp; omega) | omega) _ | refine Below.setCell ?_ (by first | exact Nat.le_refl _ | (simp; done) | (simp; omega) | omega) _))) hxn
  rw [decide_eq_true (show L7 = L8 from HI7.out.eq HI8.out)]
  have HSa := Lib.hid (HSa.out.ext hxx)
  have HSb := Lib.hid (HSb.out.ext hxx)
  have HS1 := Lib.hid (HS1.out.ext hxx)
  have HS2 := Lib.hid (HS2.out.ext hxx)
  have HS3 := Lib.hid (HS3.out.ext hxx)
  have HS4 := Lib.hid (HS4.out.ext hxx)
  have HS5 := Lib.hid (HS5.out.ext hxx)
  have HS6 := Lib.hid (HS6.out.ext hxx)
  have HS7 := Lib.hid (HS7.out.ext hxx)
  have HS8 := Lib.hid (HS8.out.ext hxx)
  have HX := Lib.hid (Ext.trans HX.out hxx)
  clear hxn hxx
  obtain ⟨q, hq⟩ : ∃ q, hasB La at_ = q := ⟨_, rfl⟩
  have HQ := Lib.hid hq
  clear hq
  go_wp2_with fail
  refine (has_v _ La at_ _ (HSa.out.ext (by (unfold Ext; repeat (first | exact Below.refl _ _ | assumption | refine Below.drew ?_ | refine below_drewN ?_ _ | refine Below.alloc ?_ (by first | exact Nat.le_refl _ | (simp; done) | (simp; omega) | omega) _ | refine Below.setCell ?_ (by first | exact Nat.le_refl _ | (simp; done) | (simp; omega) | omega) _))))).mono ?_
  rintro e W16 ⟨rfl, hxn⟩
  have hxx : Ext W15 W16 := Ext.trans (by (unfold Ext; repeat (first | exact Below.refl _ _ | assumption | refine Below.drew ?_ | refine below_drewN ?_ _ | refine Below.alloc ?_ (by first | exact Nat.le_refl _ | (simp; done) | (simp; omega) | omega) _ | refine Below.setCell ?_ (by first | exact Nat.le_refl _ | (simp; done) | (simp; omega) | omega) _))) hxn
  rw [HQ.out]
  have HSa := Lib.hid (HSa.out.ext hxx)
  have HSb := Lib.hid (HSb.out.ext hxx)
  have HS1 := Lib.hid (HS1.out.ext hxx)
  have HS2 := Lib.hid (HS2.out.ext hxx)
  have HS3 := Lib.hid (HS3.out.ext hxx)
  have HS4 := Lib.hid (HS4.out.ext hxx)
  have HS5 := Lib.hid (HS5.out.ext hxx)
  have HS6 := Lib.hid (HS6.out.ext hxx)
  have HS7 := Lib.hid (HS7.out.ext hxx)
  have HS8 := Lib.hid (HS8.out.ext hxx)
  have HX := Lib.hid (Ext.trans HX.out hxx)
  clear hxn hxx
  go_wp2_with fail
  refine (rhas_v _ La at_ _ (HSa.out.ext (by (unfold Ext; repeat (first | exact Below.refl _ _ | assumption | refine Below.drew ?_ | refine below_drewN ?_ _ | refine Below.alloc ?_ (by first | exact Nat.le_refl _ | (simp; done) | (simp; omega) | omega) _ | refine Below.setCell ?_ (by first | exact Nat.le_refl _ | (simp; done) | (simp; omega) | omega) _))))).mono ?_
  rintro e W17 ⟨rfl, hxn⟩
  have hxx : Ext W16 W17 := Ext.trans (by (unfold Ext; repeat (first | exact Below.refl _ _ | assumption | refine Below.drew ?_ | refine below_drewN ?_ _ | refine Below.alloc ?_ (by first | exact Nat.le_refl _ | (simp; done) | (simp; omega) | omega) _ | refine Below.setCell ?_ (by first | exact Nat.le_refl _ | (simp; done) | (simp; omega) | omega) _))) hxn
  rw [HQ.out]
  have HSa := Lib.hid (HSa.out.ext hxx)
  have HSb := Lib.hid (HSb.out.ext hxx)
  have HS1 := Lib.hid (HS1.out.ext hxx)
  have HS2 := Lib.hid (HS2.out.ext hxx)
  have HS3 := Lib.hid (HS3.out.ext hxx)
  have HS4 := Lib.hid (HS4.out.ext hxx)
  have HS5 := Lib.hid (HS5.out.ext hxx)
  have HS6 := Lib.hid (HS6.out.ext hxx)
  have HS7 := Lib.hid (HS7.out.ext hxx)
  have HS8 := Lib.hid (HS8.out.ext hxx)
  have HX := Lib.hid (Ext.trans HX.out hxx)
  clear hxn hxx
  go_wp2_with fail
  refine (size_v _ La _ (HSa.out.ext (by (unfold Ext; repeat (first | exact Below.refl _ _ | assumption | refine Below.drew ?_ | refine below_drewN ?_ _ | refine Below.alloc ?_ (by first | exact Nat.le_refl _ | (simp; done) | (simp; omega) | omega) _ | refine Below.setCell ?_ (by first | exact Nat.le_refl _ | (simp; done) | (simp; omega) | omega) _)))) (by have h0 := HLa.out; omega)).mono ?_
  rintro e W18 ⟨rfl, hi, hxn⟩
  have hxx : Ext W17 W18 := Ext.trans (by (unfold Ext; repeat (first | exact Below.refl _ _ | assumption | refine Below.drew ?_ | refine below_drewN ?_ _ | refine Below.alloc ?_ (by first | exact Nat.le_refl _ | (simp; done) | (simp; omega) | omega) _ | refine Below.setCell ?_ (by first | exact Nat.le_refl _ | (simp; done) | (simp; omega) | omega) _))) hxn
  obtain ⟨L9, hL⟩ : ∃ L, ofL fOr La [] = L := ⟨_, rfl⟩
  rw [hL] at hi
  first | rw [hL] | skip
  obtain ⟨S9, hS⟩ : ∃ S, sizeL L9 = S := ⟨_, rfl⟩
  rw [hS]
  have HI9 := hi
  have HZ9 := Lib.hid hS
  have z9 : 0 ≤ S9 := by rw [← hS]; exact sizeL_nonneg hi.out.ord
  have y9 : S9 ≤ 1099511627777 := by rw [← hS]; have := sizeL_le hi.out.ord (by decide); omega
  clear hi hL hS
  have HSa := Lib.hid (HSa.out.ext hxx)
  have HSb := Lib.hid (HSb.out.ext hxx)
  have HS1 := Lib.hid (HS1.out.ext hxx)
  have HS2 := Lib.hid (HS2.out.ext hxx)
  have HS3 := Lib.hid (HS3.out.ext hxx)
  have HS4 := Lib.hid (HS4.out.ext hxx)
  have HS5 := Lib.hid (HS5.out.ext hxx)
  have HS6 := Lib.hid (HS6.out.ext hxx)
  have HS7 := Lib.hid (HS7.out.ext hxx)
  have HS8 := Lib.hid (HS8.out.ext hxx)
  have HX := Lib.hid (Ext.trans HX.out hxx)
  clear hxn hxx
  go_wp2_with fail
  refine (rsize_v _ La _ (HSa.out.ext (by (unfold Ext; repeat (first | exact Below.refl _ _ | assumption | refine Below.drew ?_ | refine below_drewN ?_ _ | refine Below.alloc ?_ (by first | exact Nat.le_refl _ | (simp; done) | (simp; omega) | omega) _ | refine Below.setCell ?_ (by first | exact Nat.le_refl _ | (simp; done) | (simp; omega) | omega) _)))) (by have h0 := HLa.out; omega)).mono ?_
  rintro e W19 ⟨rfl, hi, hxn⟩
  have hxx : Ext W18 W19 := Ext.trans (by (unfold Ext; repeat (first | exact Below.refl _ _ | assumption | refine Below.drew ?_ | refine below_drewN ?_ _ | refine Below.alloc ?_ (by first | exact Nat.le_refl _ | (simp; done) | (simp; omega) | omega) _ | refine Below.setCell ?_ (by first | exact Nat.le_refl _ | (simp; done) | (simp; omega) | omega) _))) hxn
  obtain ⟨L10, hL⟩ : ∃ L, ofL fOr La [] = L := ⟨_, rfl⟩
  rw [hL] at hi
  first | rw [hL] | skip
  obtain ⟨S10, hS⟩ : ∃ S, sizeL L10 = S := ⟨_, rfl⟩
  rw [hS]
  have HI10 := hi
  have HZ10 := Lib.hid hS
  have z10 : 0 ≤ S10 := by rw [← hS]; exact sizeL_nonneg hi.out.ord
  have y10 : S10 ≤ 1099511627777 := by rw [← hS]; have := sizeL_le hi.out.ord (by decide); omega
  clear hi hL hS
  have HSa := Lib.hid (HSa.out.ext hxx)
  have HSb := Lib.hid (HSb.out.ext hxx)
  have HS1 := Lib.hid (HS1.out.ext hxx)
  have HS2 := Lib.hid (HS2.out.ext hxx)
  have HS3 := Lib.hid (HS3.out.ext hxx)
  have HS4 := Lib.hid (HS4.out.ext hxx)
  have HS5 := Lib.hid (HS5.out.ext hxx)
  have HS6 := Lib.hid (HS6.out.ext hxx)
  have HS7 := Lib.hid (HS7.out.ext hxx)
  have HS8 := Lib.hid (HS8.out.ext hxx)
  have HX := Lib.hid (Ext.trans HX.out hxx)
  clear hxn hxx
  obtain rfl : S9 = S10 := by rw [← HZ9.out, ← HZ10.out, HI9.out.eq HI10.out]
  have hqq : (q == q) = true := by simp
  have hss : (S9 == S9) = true := by simp
  go_wp2
  go_ret
  exact ⟨rfl, Ext.trans HX.out (by (unfold Ext; repeat (first | exact Below.refl _ _ | assumption | refine Below.drew ?_ | refine below_drewN ?_ _ | refine Below.alloc ?_ (by first | exact Nat.le_refl _ | (simp; done) | (simp; omega) | omega) _ | refine Below.setCell ?_ (by first | exact Nat.le_refl _ | (simp; done) | (simp; omega) | omega) _)))⟩

set_option maxRecDepth 100000 in
set_option maxHeartbeats 8000000 in
theorem only_walk {p0 : Option Addr} {n0 c0 : Nat} {l0 : List Span} {p1 : Option Addr} {n1 c1 : Nat} {l1 : List Span} {w : World} (h0 : LSpan.Row w p0 n0 l0) (f0 : n0 ≤ c0) (m0 : c0 ≤ 9223372036854775807) (g0 : Pl p0 c0) (h1 : LSpan.Row w p1 n1 l1) (f1 : n1 ≤ c1) (m1 : c1 ≤ 9223372036854775807) (g1 : Pl p1 c1) :
    Calls Try.prog 8 #[.slice p0 n0 c0, .slice p1 n1 c1] w fun e w' => e = .returned (.bool true) ∧ Ext w w' := by
  have HSx : Hid (LSpan.Sl w (.slice p0 n0 c0) l0) := Lib.hid ⟨p0, n0, c0, rfl, h0, f0, m0, g0⟩
  have HSy : Hid (LSpan.Sl w (.slice p1 n1 c1) l1) := Lib.hid ⟨p1, n1, c1, rfl, h1, f1, m1, g1⟩
  have HX : Hid (Ext w w) := Lib.hid (Ext.refl _)
  clear h0 g0 h1 g1
  go_enter Try.func8, Try.ntmps8
  go_wp2_with fail
  refine (head_any _).mono ?_
  rintro e W1 ⟨rfl, hxn⟩
  have hxx : Ext w W1 := Ext.trans (by (unfold Ext; repeat (first | exact Below.refl _ _ | assumption | refine Below.drew ?_ | refine below_drewN ?_ _ | refine Below.alloc ?_ (by first | exact Nat.le_refl _ | (simp; done) | (simp; omega) | omega) _ | refine Below.setCell ?_ (by first | exact Nat.le_refl _ | (simp; done) | (simp; omega) | omega) _))) hxn
  have HSx := Lib.hid (HSx.out.ext hxx)
  have HSy := Lib.hid (HSy.out.ext hxx)
  have HX := Lib.hid (Ext.trans HX.out hxx)
  clear hxn hxx
  go_wp2_with fail
  refine (few_v _ l0 _ (HSx.out.ext (by (unfold Ext; repeat (first | exact Below.refl _ _ | assumption | refine Below.drew ?_ | refine below_drewN ?_ _ | refine Below.alloc ?_ (by first | exact Nat.le_refl _ | (simp; done) | (simp; omega) | omega) _ | refine Below.setCell ?_ (by first | exact Nat.le_refl _ | (simp; done) | (simp; omega) | omega) _))))).mono ?_
  rintro e W2 ⟨⟨va, rfl, hown⟩, hxn⟩
  have hxx : Ext W1 W2 := Ext.trans (by (unfold Ext; repeat (first | exact Below.refl _ _ | assumption | refine Below.drew ?_ | refine below_drewN ?_ _ | refine Below.alloc ?_ (by first | exact Nat.le_refl _ | (simp; done) | (simp; omega) | omega) _ | refine Below.setCell ?_ (by first | exact Nat.le_refl _ | (simp; done) | (simp; omega) | omega) _))) hxn
  obtain ⟨La, hL⟩ : ∃ L, l0.take 40 = L := ⟨_, rfl⟩
  rw [hL] at hown
  have HSx := Lib.hid (HSx.out.ext hxx)
  have HSy := Lib.hid (HSy.out.ext hxx)
  have HX := Lib.hid (Ext.trans HX.out hxx)
  clear hxn hxx
  have HLa : Hid (La.length ≤ 40) := Lib.hid (by rw [← hL]; simp; omega)
  have HSa := Lib.hid hown.sl
  clear hown hL
  go_wp2_with fail
  refine (few_v _ l1 _ (HSy.out.ext (by (unfold Ext; repeat (first | exact Below.refl _ _ | assumption | refine Below.drew ?_ | refine below_drewN ?_ _ | refine Below.alloc ?_ (by first | exact Nat.le_refl _ | (simp; done) | (simp; omega) | omega) _ | refine Below.setCell ?_ (by first | exact Nat.le_refl _ | (simp; done) | (simp; omega) | omega) _))))).mono ?_
  rintro e W3 ⟨⟨vb, rfl, hown⟩, hxn⟩
  have hxx : Ext W2 W3 := Ext.trans (by (unfold Ext; repeat (first | exact Below.refl _ _ | assumption | refine Below.drew ?_ | refine below_drewN ?_ _ | refine Below.alloc ?_ (by first | exact Nat.le_refl _ | (simp; done) | (simp; omega) | omega) _ | refine Below.setCell ?_ (by first | exact Nat.le_refl _ | (simp; done) | (simp; omega) | omega) _))) hxn
  obtain ⟨Lb, hL⟩ : ∃ L, l1.take 40 = L := ⟨_, rfl⟩
  rw [hL] at hown
  have HSy := Lib.hid (HSy.out.ext hxx)
  have HSa := Lib.hid (HSa.out.ext hxx)
  have HX := Lib.hid (Ext.trans HX.out hxx)
  clear hxn hxx
  have HLb : Hid (Lb.length ≤ 40) := Lib.hid (by rw [← hL]; simp; omega)
  have HSb := Lib.hid hown.sl
  clear hown hL
  go_wp2_with fail
  refine (norm_v _ La _ (HSa.out.ext (by (unfold Ext; repeat (first | exact Below.refl _ _ | assumption | refine Below.drew ?_ | refine below_drewN ?_ _ | refine Below.alloc ?_ (by first | exact Nat.le_refl _ | (simp; done) | (simp; omega) | omega) _ | refine Below.setCell ?_ (by first | exact Nat.le_refl _ | (simp; done) | (simp; omega) | omega) _)))) (by have h0 := HLa.out; omega)).mono ?_
  rintro e W4 ⟨⟨v1, rfl, hown⟩, hi, hxn⟩
  have hxx : Ext W3 W4 := Ext.trans (by (unfold Ext; repeat (first | exact Below.refl _ _ | assumption | refine Below.drew ?_ | refine below_drewN ?_ _ | refine Below.alloc ?_ (by first | exact Nat.le_refl _ | (simp; done) | (simp; omega) | omega) _ | refine Below.setCell ?_ (by first | exact Nat.le_refl _ | (simp; done) | (simp; omega) | omega) _))) hxn
  obtain ⟨L1, hL⟩ : ∃ L, ofL fOr La [] = L := ⟨_, rfl⟩
  rw [hL] at hown hi
  have HSa := Lib.hid (HSa.out.ext hxx)
  have HSb := Lib.hid (HSb.out.ext hxx)
  have HX := Lib.hid (Ext.trans HX.out hxx)
  clear hxn hxx
  have HS1 := Lib.hid hown.sl
  have HI1 := hi
  have HL1 : Hid (L1.length ≤ 81) := Lib.hid (by have h := hi.out.len; have h1 := HLa.out; simp only [List.length_nil, Nat.add_zero] at h; omega)
  clear hown hi hL
  go_wp2_with fail
  refine (norm_v _ Lb _ (HSb.out.ext (by (unfold Ext; repeat (first | exact Below.refl _ _ | assumption | refine Below.drew ?_ | refine below_drewN ?_ _ | refine Below.alloc ?_ (by first | exact Nat.le_refl _ | (simp; done) | (simp; omega) | omega) _ | refine Below.setCell ?_ (by first | exact Nat.le_refl _ | (simp; done) | (simp; omega) | omega) _)))) (by have h0 := HLb.out; omega)).mono ?_
  rintro e W5 ⟨⟨v2, rfl, hown⟩, hi, hxn⟩
  have hxx : Ext W4 W5 := Ext.trans (by (unfold Ext; repeat (first | exact Below.refl _ _ | assumption | refine Below.drew ?_ | refine below_drewN ?_ _ | refine Below.alloc ?_ (by first | exact Nat.le_refl _ | (simp; done) | (simp; omega) | omega) _ | refine Below.setCell ?_ (by first | exact Nat.le_refl _ | (simp; done) | (simp; omega) | omega) _))) hxn
  obtain ⟨L2, hL⟩ : ∃ L, ofL fOr Lb [] = L := ⟨_, rfl⟩
  rw [hL] at hown hi
  have HSa := Lib.hid (HSa.out.ext hxx)
  have HSb := Lib.hid (HSb.out.ext hxx)
  have HS1 := Lib.hid (HS1.out.ext hxx)
  have HX := Lib.hid (Ext.trans HX.out hxx)
  clear hxn hxx
  have HS2 := Lib.hid hown.sl
  have HI2 := hi
  have HL2 : Hid (L2.length ≤ 81) := Lib.hid (by have h := hi.out.len; have h1 := HLb.out; simp only [List.length_nil, Nat.add_zero] at h; omega)
  clear hown hi hL
  by_cases hq : L1 = L2
  · have HQ := Lib.hid hq
    clear hq
    go_wp2_with fail
    refine (same_v _ _ L1 L2 _ (HS1.out.ext (by (unfold Ext; repeat (first | exact Below.refl _ _ | assumption | refine Below.drew ?_ | refine below_drewN ?_ _ | refine Below.alloc ?_ (by first | exact Nat.le_refl _ | (simp; done) | (simp; omega) | omega) _ | refine Below.setCell ?_ (by first | exact Nat.le_refl _ | (simp; done) | (simp; omega) | omega) _)))) (HS2.out.ext (by (unfold Ext; repeat (first | exact Below.refl _ _ | assumption | refine Below.drew ?_ | refine below_drewN ?_ _ | refine Below.alloc ?_ (by first | exact Nat.le_refl _ | (simp; done) | (simp; omega) | omega) _ | refine Below.setCell ?_ (by first | exact Nat.le_refl _ | (simp; done) | (simp; omega) | omega) _))))).mono ?_
    rintro e W6 ⟨rfl, hxn⟩
    have hxx : Ext W5 W6 := Ext.trans (by (unfold Ext; repeat (first | exact Below.refl _ _ | assumption | refine Below.drew ?_ | refine below_drewN ?_ _ | refine Below.alloc ?_ (by first | exact Nat.le_refl _ | (simp; done) | (simp; omega) | omega) _ | refine Below.setCell ?_ (by first | exact Nat.le_refl _ | (simp; done) | (simp; omega) | omega) _))) hxn
    rw [decide_eq_true (show L1 = L2 from HQ.out)]
    have HSa := Lib.hid (HSa.out.ext hxx)
    have HSb := Lib.hid (HSb.out.ext hxx)
    have HS1 := Lib.hid (HS1.out.ext hxx)
    have HS2 := Lib.hid (HS2.out.ext hxx)
    have HX := Lib.hid (Ext.trans HX.out hxx)
    clear hxn hxx
    have HE : Hid (∀ t, hasB La t = hasB Lb t) := Lib.hid (fun t => by have h1 := HI1.out.set t; have h2 := HI2.out.set t; rw [HQ.out, h2] at h1; simpa [fOr, hasB_nil] using h1.symm)
    go_wp2_with fail
    refine (cut_v _ _ La Lb _ (HSa.out.ext (by (unfold Ext; repeat (first | exact Below.refl _ _ | assumption | refine Below.drew ?_ | refine below_drewN ?_ _ | refine Below.alloc ?_ (by first | exact Nat.le_refl _ | (simp; done) | (simp; omega) | omega) _ | refine Below.setCell ?_ (by first | exact Nat.le_refl _ | (simp; done) | (simp; omega) | omega) _)))) (HSb.out.ext (by (unfold Ext; repeat (first | exact Below.refl _ _ | assumption | refine Below.drew ?_ | refine below_drewN ?_ _ | refine Below.alloc ?_ (by first | exact Nat.le_refl _ | (simp; done) | (simp; omega) | omega) _ | refine Below.setCell ?_ (by first | exact Nat.le_refl _ | (simp; done) | (simp; omega) | omega) _)))) (by have h0 := HLa.out; have h1 := HLb.out; omega)).mono ?_
    rintro e W7 ⟨⟨v3, rfl, hown⟩, hi, hxn⟩
    have hxx : Ext W6 W7 := Ext.trans (by (unfold Ext; repeat (first | exact Below.refl _ _ | assumption | refine Below.drew ?_ | refine below_drewN ?_ _ | refine Below.alloc ?_ (by first | exact Nat.le_refl _ | (simp; done) | (simp; omega) | omega) _ | refine Below.setCell ?_ (by first | exact Nat.le_refl _ | (simp; done) | (simp; omega) | omega) _))) hxn
    obtain ⟨L3, hL⟩ : ∃ L, ofL fCut La Lb = L := ⟨_, rfl⟩
    rw [hL] at hown hi
    have HSa := Lib.hid (HSa.out.ext hxx)
    have HSb := Lib.hid (HSb.out.ext hxx)
    have HS1 := Lib.hid (HS1.out.ext hxx)
    have HS2 := Lib.hid (HS2.out.ext hxx)
    have HX := Lib.hid (Ext.trans HX.out hxx)
    clear hxn hxx
    have HS3 := Lib.hid hown.sl
    have HI3 := hi
    have HL3 : Hid (L3.length ≤ 161) := Lib.hid (by have h := hi.out.len; have h1 := HLa.out; have h2 := HLb.out; omega)
    clear hown hi hL
    obtain ⟨p3, n3, c3, hv, hr3, _⟩ := HS3.out
    subst hv
    have HN3 : Hid (L3.length = n3) := Lib.hid hr3.1
    clear hr3
    go_wp2_with fail
    refine (cut_v _ _ Lb La _ (HSb.out.ext (by (unfold Ext; repeat (first | exact Below.refl _ _ | assumption | refine Below.drew ?_ | refine below_drewN ?_ _ | refine Below.alloc ?_ (by first | exact Nat.le_refl _ | (simp; done) | (simp; omega) | omega) _ | refine Below.setCell ?_ (by first | exact Nat.le_refl _ | (simp; done) | (simp; omega) | omega) _)))) (HSa.out.ext (by (unfold Ext; repeat (first | exact Below.refl _ _ | assumption | refine Below.drew ?_ | refine below_drewN ?_ _ | refine Below.alloc ?_ (by first | exact Nat.le_refl _ | (simp; done) | (simp; omega) | omega) _ | refine Below.setCell ?_ (by first | exact Nat.le_refl _ | (simp; done) | (simp; omega) | omega) _)))) (by have h0 := HLb.out; have h1 := HLa.out; omega)).mono ?_
    rintro e W8 ⟨⟨v4, rfl, hown⟩, hi, hxn⟩
    have hxx : Ext W7 W8 := Ext.trans (by (unfold Ext; repeat (first | exact Below.refl _ _ | assumption | refine Below.drew ?_ | refine below_drewN ?_ _ | refine Below.alloc ?_ (by first | exact Nat.le_refl _ | (simp; done) | (simp; omega) | omega) _ | refine Below.setCell ?_ (by first | exact Nat.le_refl _ | (simp; done) | (simp; omega) | omega) _))) hxn
    obtain ⟨L4, hL⟩ : ∃ L, ofL fCut Lb La = L := ⟨_, rfl⟩
    rw [hL] at hown hi
    have HSa := Lib.hid (HSa.out.ext hxx)
    have HSb := Lib.hid (HSb.out.ext hxx)
    have HS1 := Lib.hid (HS1.out.ext hxx)
    have HS2 := Lib.hid (HS2.out.ext hxx)
    have HS3 := Lib.hid (HS3.out.ext hxx)
    have HX := Lib.hid (Ext.trans HX.out hxx)
    clear hxn hxx
    have HS4 := Lib.hid hown.sl
    have HI4 := hi
    have HL4 : Hid (L4.length ≤ 161) := Lib.hid (by have h := hi.out.len; have h1 := HLb.out; have h2 := HLa.out; omega)
    clear hown hi hL
    obtain ⟨p4, n4, c4, hv, hr4, _⟩ := HS4.out
    subst hv
    have HN4 : Hid (L4.length = n4) := Lib.hid hr4.1
    clear hr4
    obtain rfl : n3 = 0 := by rw [← HN3.out, show L3 = [] from ordered_uniq HI3.out.ord trivial (fun t => by rw [HI3.out.set, HE.out t, hasB_nil]; unfold fCut; cases hasB Lb t <;> rfl)]; rfl
    obtain rfl : n4 = 0 := by rw [← HN4.out, show L4 = [] from ordered_uniq HI4.out.ord trivial (fun t => by rw [HI4.out.set, HE.out t, hasB_nil]; unfold fCut; cases hasB Lb t <;> rfl)]; rfl
    go_wp2_with fail
    refine (size_v _ La _ (HSa.out.ext (by (unfold Ext; repeat (first | exact Below.refl _ _ | assumption | refine Below.drew ?_ | refine below_drewN ?_ _ | refine Below.alloc ?_ (by first | exact Nat.le_refl _ | (simp; done) | (simp; omega) | omega) _ | refine Below.setCell ?_ (by first | exact Nat.le_refl _ | (simp; done) | (simp; omega) | omega) _)))) (by have h0 := HLa.out; omega)).mono ?_
    rintro e W9 ⟨rfl, hi, hxn⟩
    have hxx : Ext W8 W9 := Ext.trans (by (unfold Ext; repeat (first | exact Below.refl _ _ | assumption | refine Below.drew ?_ | refine below_drewN ?_ _ | refine Below.alloc ?_ (by first | exact Nat.le_refl _ | (simp; done) | (simp; omega) | omega) _ | refine Below.setCell ?_ (by first | exact Nat.le_refl _ | (simp; done) | (simp; omega) | omega) _))) hxn
    obtain ⟨L5, hL⟩ : ∃ L, ofL fOr La [] = L := ⟨_, rfl⟩
    rw [hL] at hi
    first | rw [hL] | skip
    obtain ⟨S5, hS⟩ : ∃ S, sizeL L5 = S := ⟨_, rfl⟩
    rw [hS]
    have HI5 := hi
    have HZ5 := Lib.hid hS
    have z5 : 0 ≤ S5 := by rw [← hS]; exact sizeL_nonneg hi.out.ord
    have y5 : S5 ≤ 1099511627777 := by rw [← hS]; have := sizeL_le hi.out.ord (by decide); omega
    clear hi hL hS
    have HSa := Lib.hid (HSa.out.ext hxx)
    have HSb := Lib.hid (HSb.out.ext hxx)
    have HS1 := Lib.hid (HS1.out.ext hxx)
    have HS2 := Lib.hid (HS2.out.ext hxx)
    have HS3 := Lib.hid (HS3.out.ext hxx)
    have HS4 := Lib.hid (HS4.out.ext hxx)
    have HX := Lib.hid (Ext.trans HX.out hxx)
    clear hxn hxx
    go_wp2_with fail
    refine (size_v _ Lb _ (HSb.out.ext (by (unfold Ext; repeat (first | exact Below.refl _ _ | assumption | refine Below.drew ?_ | refine below_drewN ?_ _ | refine Below.alloc ?_ (by first | exact Nat.le_refl _ | (simp; done) | (simp; omega) | omega) _ | refine Below.setCell ?_ (by first | exact Nat.le_refl _ | (simp; done) | (simp; omega) | omega) _)))) (by have h0 := HLb.out; omega)).mono ?_
    rintro e W10 ⟨rfl, hi, hxn⟩
    have hxx : Ext W9 W10 := Ext.trans (by (unfold Ext; repeat (first | exact Below.refl _ _ | assumption | refine Below.drew ?_ | refine below_drewN ?_ _ | refine Below.alloc ?_ (by first | exact Nat.le_refl _ | (simp; done) | (simp; omega) | omega) _ | refine Below.setCell ?_ (by first | exact Nat.le_refl _ | (simp; done) | (simp; omega) | omega) _))) hxn
    obtain ⟨L6, hL⟩ : ∃ L, ofL fOr Lb [] = L := ⟨_, rfl⟩
    rw [hL] at hi
    first | rw [hL] | skip
    obtain ⟨S6, hS⟩ : ∃ S, sizeL L6 = S := ⟨_, rfl⟩
    rw [hS]
    have HI6 := hi
    have HZ6 := Lib.hid hS
    have z6 : 0 ≤ S6 := by rw [← hS]; exact sizeL_nonneg hi.out.ord
    have y6 : S6 ≤ 1099511627777 := by rw [← hS]; have := sizeL_le hi.out.ord (by decide); omega
    clear hi hL hS
    have HSa := Lib.hid (HSa.out.ext hxx)
    have HSb := Lib.hid (HSb.out.ext hxx)
    have HS1 := Lib.hid (HS1.out.ext hxx)
    have HS2 := Lib.hid (HS2.out.ext hxx)
    have HS3 := Lib.hid (HS3.out.ext hxx)
    have HS4 := Lib.hid (HS4.out.ext hxx)
    have HX := Lib.hid (Ext.trans HX.out hxx)
    clear hxn hxx
    obtain rfl : S5 = S6 := by rw [← HZ5.out, ← HZ6.out, HI5.out.eq HI1.out, HI6.out.eq HI2.out, HQ.out]
    have hss : (S5 == S5) = true := by simp
    go_wp2
    go_ret
    exact ⟨rfl, Ext.trans HX.out (by (unfold Ext; repeat (first | exact Below.refl _ _ | assumption | refine Below.drew ?_ | refine below_drewN ?_ _ | refine Below.alloc ?_ (by first | exact Nat.le_refl _ | (simp; done) | (simp; omega) | omega) _ | refine Below.setCell ?_ (by first | exact Nat.le_refl _ | (simp; done) | (simp; omega) | omega) _)))⟩
  · have HQ := Lib.hid hq
    clear hq
    go_wp2_with fail
    refine (same_v _ _ L1 L2 _ (HS1.out.ext (by (unfold Ext; repeat (first | exact Below.refl _ _ | assumption | refine Below.drew ?_ | refine below_drewN ?_ _ | refine Below.alloc ?_ (by first | exact Nat.le_refl _ | (simp; done) | (simp; omega) | omega) _ | refine Below.setCell ?_ (by first | exact Nat.le_refl _ | (simp; done) | (simp; omega) | omega) _)))) (HS2.out.ext (by (unfold Ext; repeat (first | exact Below.refl _ _ | assumption | refine Below.drew ?_ | refine below_drewN ?_ _ | refine Below.alloc ?_ (by first | exact Nat.le_refl _ | (simp; done) | (simp; omega) | omega) _ | refine Below.setCell ?_ (by first | exact Nat.le_refl _ | (simp; done) | (simp; omega) | omega) _))))).mono ?_
    rintro e W6 ⟨rfl, hxn⟩
    have hxx : Ext W5 W6 := Ext.trans (by (unfold Ext; repeat (first | exact Below.refl _ _ | assumption | refine Below.drew ?_ | refine below_drewN ?_ _ | refine Below.alloc ?_ (by first | exact Nat.le_refl _ | (simp; done) | (simp; omega) | omega) _ | refine Below.setCell ?_ (by first | exact Nat.le_refl _ | (simp; done) | (simp; omega) | omega) _))) hxn
    rw [decide_eq_false HQ.out]
    have HSa := Lib.hid (HSa.out.ext hxx)
    have HSb := Lib.hid (HSb.out.ext hxx)
    have HS1 := Lib.hid (HS1.out.ext hxx)
    have HS2 := Lib.hid (HS2.out.ext hxx)
    have HX := Lib.hid (Ext.trans HX.out hxx)
    clear hxn hxx
    go_wp2_with fail
    refine (cut_v _ _ La Lb _ (HSa.out.ext (by (unfold Ext; repeat (first | exact Below.refl _ _ | assumption | refine Below.drew ?_ | refine below_drewN ?_ _ | refine Below.alloc ?_ (by first | exact Nat.le_refl _ | (simp; done) | (simp; omega) | omega) _ | refine Below.setCell ?_ (by first | exact Nat.le_refl _ | (simp; done) | (simp; omega) | omega) _)))) (HSb.out.ext (by (unfold Ext; repeat (first | exact Below.refl _ _ | assumption | refine Below.drew ?_ | refine below_drewN ?_ _ | refine Below.alloc ?_ (by first | exact Nat.le_refl _ | (simp; done) | (simp; omega) | omega) _ | refine Below.setCell ?_ (by first | exact Nat.le_refl _ | (simp; done) | (simp; omega) | omega) _)))) (by have h0 := HLa.out; have h1 := HLb.out; omega)).mono ?_
    rintro e W7 ⟨⟨v3, rfl, hown⟩, hi, hxn⟩
    have hxx : Ext W6 W7 := Ext.trans (by (unfold Ext; repeat (first | exact Below.refl _ _ | assumption | refine Below.drew ?_ | refine below_drewN ?_ _ | refine Below.alloc ?_ (by first | exact Nat.le_refl _ | (simp; done) | (simp; omega) | omega) _ | refine Below.setCell ?_ (by first | exact Nat.le_refl _ | (simp; done) | (simp; omega) | omega) _))) hxn
    obtain ⟨L3, hL⟩ : ∃ L, ofL fCut La Lb = L := ⟨_, rfl⟩
    rw [hL] at hown hi
    have HSa := Lib.hid (HSa.out.ext hxx)
    have HSb := Lib.hid (HSb.out.ext hxx)
    have HS1 := Lib.hid (HS1.out.ext hxx)
    have HS2 := Lib.hid (HS2.out.ext hxx)
    have HX := Lib.hid (Ext.trans HX.out hxx)
    clear hxn hxx
    have HS3 := Lib.hid hown.sl
    have HI3 := hi
    have HL3 : Hid (L3.length ≤ 161) := Lib.hid (by have h := hi.out.len; have h1 := HLa.out; have h2 := HLb.out; omega)
    clear hown hi hL
    obtain ⟨p3, n3, c3, hv, hr3, _⟩ := HS3.out
    subst hv
    have HN3 : Hid (L3.length = n3) := Lib.hid hr3.1
    clear hr3
    go_wp2_with fail
    refine (cut_v _ _ Lb La _ (HSb.out.ext (by (unfold Ext; repeat (first | exact Below.refl _ _ | assumption | refine Below.drew ?_ | refine below_drewN ?_ _ | refine Below.alloc ?_ (by first | exact Nat.le_refl _ | (simp; done) | (simp; omega) | omega) _ | refine Below.setCell ?_ (by first | exact Nat.le_refl _ | (simp; done) | (simp; omega) | omega) _)))) (HSa.out.ext (by (unfold Ext; repeat (first | exact Below.refl _ _ | assumption | refine Below.drew ?_ | refine below_drewN ?_ _ | refine Below.alloc ?_ (by first | exact Nat.le_refl _ | (simp; done) | (simp; omega) | omega) _ | refine Below.setCell ?_ (by first | exact Nat.le_refl _ | (simp; done) | (simp; omega) | omega) _)))) (by have h0 := HLb.out; have h1 := HLa.out; omega)).mono ?_
    rintro e W8 ⟨⟨v4, rfl, hown⟩, hi, hxn⟩
    have hxx : Ext W7 W8 := Ext.trans (by (unfold Ext; repeat (first | exact Below.refl _ _ | assumption | refine Below.drew ?_ | refine below_drewN ?_ _ | refine Below.alloc ?_ (by first | exact Nat.le_refl _ | (simp; done) | (simp; omega) | omega) _ | refine Below.setCell ?_ (by first | exact Nat.le_refl _ | (simp; done) | (simp; omega) | omega) _))) hxn
    obtain ⟨L4, hL⟩ : ∃ L, ofL fCut Lb La = L := ⟨_, rfl⟩
    rw [hL] at hown hi
    have HSa := Lib.hid (HSa.out.ext hxx)
    have HSb := Lib.hid (HSb.out.ext hxx)
    have HS1 := Lib.hid (HS1.out.ext hxx)
    have HS2 := Lib.hid (HS2.out.ext hxx)
    have HS3 := Lib.hid (HS3.out.ext hxx)
    have HX := Lib.hid (Ext.trans HX.out hxx)
    clear hxn hxx
    have HS4 := Lib.hid hown.sl
    have HI4 := hi
    have HL4 : Hid (L4.length ≤ 161) := Lib.hid (by have h := hi.out.len; have h1 := HLb.out; have h2 := HLa.out; omega)
    clear hown hi hL
    obtain ⟨p4, n4, c4, hv, hr4, _⟩ := HS4.out
    subst hv
    have HN4 : Hid (L4.length = n4) := Lib.hid hr4.1
    clear hr4
    have hnn : ¬ (n3 = 0 ∧ n4 = 0) := fun ⟨e3, e4⟩ => HQ.out (ordered_uniq HI1.out.ord HI2.out.ord fun t => by
      have a3 := HI3.out.set t
      have a4 := HI4.out.set t
      rw [List.eq_nil_of_length_eq_zero (HN3.out.trans e3), hasB_nil] at a3
      rw [List.eq_nil_of_length_eq_zero (HN4.out.trans e4), hasB_nil] at a4
      rw [HI1.out.set, HI2.out.set]
      unfold fCut at a3 a4
      unfold fOr
      revert a3 a4
      cases hasB La t <;> cases hasB Lb t <;> simp)
    have b3 : n3 ≤ 1000 := by have h := HL3.out; have h2 := HN3.out; omega
    have b4 : n4 ≤ 1000 := by have h := HL4.out; have h2 := HN4.out; omega
    have hz : (((n3 : Int) + (n4 : Int)) == 0) = false := by simp; omega
    clear hnn
    go_wp2
    go_ret
    exact ⟨rfl, Ext.trans HX.out (by (unfold Ext; repeat (first | exact Below.refl _ _ | assumption | refine Below.drew ?_ | refine below_drewN ?_ _ | refine Below.alloc ?_ (by first | exact Nat.le_refl _ | (simp; done) | (simp; omega) | omega) _ | refine Below.setCell ?_ (by first | exact Nat.le_refl _ | (simp; done) | (simp; omega) | omega) _)))⟩
end Go.Proofs.Ytdpaagingfeoeaa.Sp
