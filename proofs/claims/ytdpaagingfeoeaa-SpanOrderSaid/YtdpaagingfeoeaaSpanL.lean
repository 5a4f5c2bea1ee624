/- Spans: the statement SpanOrder. -/
import Derived.Test.YtdpaagingfeoeaaSpanI
namespace Go.Proofs.Ytdpaagingfeoeaa.Sp
open Go.RowKit Go.Proofs.Ytdpaagingfeoeaa
set_option linter.unusedVariables false

def BackR (l : List Span) (w1 : World) (n : Nat) (v i : Value) (wr : World) : Prop := ∃ j : Nat, j ≤ n ∧ i = .int .i64 ((n : Int) - 1 - (j : Int)) ∧ LSpan.Own wr w1.heap.size 33 v (l.reverse.take j) ∧ Ext w1 wr

set_option maxRecDepth 100000 in
set_option maxHeartbeats 8000000 in
theorem order_walk {p0 : Option Addr} {n0 c0 : Nat} {l0 : List Span} {p1 : Option Addr} {n1 c1 : Nat} {l1 : List Span} {w : World} (h0 : LSpan.Row w p0 n0 l0) (f0 : n0 ≤ c0) (m0 : c0 ≤ 9223372036854775807) (g0 : Pl p0 c0) (h1 : LSpan.Row w p1 n1 l1) (f1 : n1 ≤ c1) (m1 : c1 ≤ 9223372036854775807) (g1 : Pl p1 c1) :
    Calls Try.prog 5 #[.slice p0 n0 c0, .slice p1 n1 c1] w fun e w' => e = .returned (.bool true) ∧ Ext w w' := by
  obtain ⟨i0, hi0, hzi0, hzi1, hzi2⟩ := info_parts info_span
  have HSx : Hid (LSpan.Sl w (.slice p0 n0 c0) l0) := Lib.hid ⟨p0, n0, c0, rfl, h0, f0, m0, g0⟩
  have HSy : Hid (LSpan.Sl w (.slice p1 n1 c1) l1) := Lib.hid ⟨p1, n1, c1, rfl, h1, f1, m1, g1⟩
  have HX : Hid (Ext w w) := Lib.hid (Ext.refl _)
  clear h0 g0 h1 g1
  go_enter Try.func5, Try.ntmps5
  go_wp2_with fail
  refine (head_any _).mono ?_
  rintro e W1 ⟨rfl, hxn⟩
  have hxx : Ext w W1 := Ext.trans (by (unfold Ext; repeat (first | exact Below.refl _ _ | assumption | refine Below.drew ?_ | refine below_drewN ?_ _ | refine Below.alloc ?_ (by first | exact Nat.le_refl _ | (simp; done) | (simp; omega) | omega) _ | refine Below.setCell ?_ (by first | exact Nat.le_refl _ | (simp; done) | (simp; omega) | omega) _))) hxn
  have HSx := Lib.hid (HSx.out.ext hxx)
  have HSy := Lib.hid (HSy.out.ext hxx)
  have HX := Lib.hid (Ext.trans HX.out hxx)
  clear hxn hxx
  go_wp2_with fail
  refine (few_v _ l0 _ (HSx.out.ext (by (unfold Ext; repeat (first | exact Below.refl _ _ | assumption | refine Below.drew ?_ | refine below_drewN ?_ _ | refine Below.alloc ?_ (by first | exact Nat.le_refl _ | (simp; done) | (simp; omega) | omega) _ | refine Below.setCell ?_ (by first | exact Nat.le_refl _ | (simp; done) | (simp; omega) | omega) _))))).mono ?_
  rintro e W2 ⟨⟨va, rfl, hown⟩, hxn⟩
  have hxx : Ext W1 W2 := Ext.trans (by (unfold Ext; repeat (first | exact Below.refl _ _ | assumption | refine Below.drew ?_ | refine below_drewN ?_ _ | refine Below.alloc ?_ (by first | exact Nat.le_refl _ | (simp; done) | (simp; omega) | omega) _ | refine Below.setCell ?_ (by first | exact Nat.le_refl _ | (simp; done) | (simp; omega) | omega) _))) hxn
  obtain ⟨La, hL⟩ : ∃ L, l0.take 40 = L := ⟨_, rfl⟩
  rw [hL] at hown
  have HSx := Lib.hid (HSx.out.ext hxx)
  have HSy := Lib.hid (HSy.out.ext hxx)
  have HX := Lib.hid (Ext.trans HX.out hxx)
  clear hxn hxx
  have HLa : Hid (La.length ≤ 40) := Lib.hid (by rw [← hL]; simp; omega)
  have HSa := Lib.hid hown.sl
  clear hown hL
  go_wp2_with fail
  refine (few_v _ l1 _ (HSy.out.ext (by (unfold Ext; repeat (first | exact Below.refl _ _ | assumption | refine Below.drew ?_ | refine below_drewN ?_ _ | refine Below.alloc ?_ (by first | exact Nat.le_refl _ | (simp; done) | (simp; omega) | omega) _ | refine Below.setCell ?_ (by first | exact Nat.le_refl _ | (simp; done) | (simp; omega) | omega) _))))).mono ?_
  rintro e W3 ⟨⟨vb, rfl, hown⟩, hxn⟩
  have hxx : Ext W2 W3 := Ext.trans (by (unfold Ext; repeat (first | exact Below.refl _ _ | assumption | refine Below.drew ?_ | refine below_drewN ?_ _ | refine Below.alloc ?_ (by first | exact Nat.le_refl _ | (simp; done) | (simp; omega) | omega) _ | refine Below.setCell ?_ (by first | exact Nat.le_refl _ | (simp; done) | (simp; omega) | omega) _))) hxn
  obtain ⟨Lb, hL⟩ : ∃ L, l1.take 40 = L := ⟨_, rfl⟩
  rw [hL] at hown
  have HSy := Lib.hid (HSy.out.ext hxx)
  have HSa := Lib.hid (HSa.out.ext hxx)
  have HX := Lib.hid (Ext.trans HX.out hxx)
  clear hxn hxx
  have HLb : Hid (Lb.length ≤ 40) := Lib.hid (by rw [← hL]; simp; omega)
  have HSb := Lib.hid hown.sl
  clear hown hL
  go_wp2_with fail
  refine (norm_v _ La _ (HSa.out.ext (by (unfold Ext; repeat (first | exact Below.refl _ _ | assumption | refine Below.drew ?_ | refine below_drewN ?_ _ | refine Below.alloc ?_ (by first | exact Nat.le_refl _ | (simp; done) | (simp; omega) | omega) _ | refine Below.setCell ?_ (by first | exact Nat.le_refl _ | (simp; done) | (simp; omega) | omega) _)))) (by have h0 := HLa.out; omega)).mono ?_
  rintro e W4 ⟨⟨v1, rfl, hown⟩, hi, hxn⟩
  have hxx : Ext W3 W4 := Ext.trans (by (unfold Ext; repeat (first | exact Below.refl _ _ | assumption | refine Below.drew ?_ | refine below_drewN ?_ _ | refine Below.alloc ?_ (by first | exact Nat.le_refl _ | (simp; done) | (simp; omega) | omega) _ | refine Below.setCell ?_ (by first | exact Nat.le_refl _ | (simp; done) | (simp; omega) | omega) _))) hxn
  obtain ⟨L1, hL⟩ : ∃ L, ofL fOr La [] = L := ⟨_, rfl⟩
  rw [hL] at hown hi
  have HSa := Lib.hid (HSa.out.ext hxx)
  have HSb := Lib.hid (HSb.out.ext hxx)
  have HX := Lib.hid (Ext.trans HX.out hxx)
  clear hxn hxx
  have HS1 := Lib.hid hown.sl
  have HI1 := hi
  have HL1 : Hid (L1.length ≤ 81) := Lib.hid (by have h := hi.out.len; have h1 := HLa.out; simp only [List.length_nil, Nat.add_zero] at h; omega)
  clear hown hi hL
  obtain ⟨pa, na, ca, hva, hra, hnca, hca, hpla⟩ := HSa.out
  subst hva
  have HRa := Lib.hid hra
  have HPa := Lib.hid hpla
  have HNa : Hid (La.length = na) := Lib.hid hra.1
  have hna : na ≤ 40 := by have h1 := HLa.out; have h2 := hra.1; omega
  clear hra hpla
  have HO0 : Hid (LSpan.Own (W4.alloc (.cells #[] 33)) W4.heap.size 33 (.slice (some ⟨W4.heap.size, 0, none⟩) 0 0) []) := Lib.hid (Lay.Own.made (E := LSpan) _ #[] 0 _ _ (Nat.le_refl _) (by decide) rfl)
  go_wp2
  go_loopw [9, 10] (fun v i wr => BackR La W4 na v i wr) (fun _ i _ => (intOf i + 1).toNat)
  case atStart => exact ⟨0, by omega, by simp, HO0.out, by (unfold Ext; repeat (first | exact Below.refl _ _ | assumption | refine Below.drew ?_ | refine below_drewN ?_ _ | refine Below.alloc ?_ (by first | exact Nat.le_refl _ | (simp; done) | (simp; omega) | omega) _ | refine Below.setCell ?_ (by first | exact Nat.le_refl _ | (simp; done) | (simp; omega) | omega) _))⟩
  case round =>
    obtain ⟨j, hj, rfl, hown, hxr⟩ := hrel
    have HO := Lib.hid hown
    clear hown
    by_cases hlt : j < na
    · obtain ⟨s, gs⟩ := get_of La (na - 1 - j) (by rw [HNa.out]; omega)
      obtain ⟨b, off, rfl, c0, c1, w0, w1⟩ := span_at (HRa.out.ext hxr) gs
      obtain ⟨f, t⟩ := s
      simp only at c0 c1 w0 w1
      have HW0 := Lib.hid w0
      have HW1 := Lib.hid w1
      clear w0 w1
      have HT : Hid (La.reverse.take (j + 1) = La.reverse.take j ++ [(f, t)]) := Lib.hid (by
        have : La.reverse[j]? = some (f, t) := by
          rw [List.getElem?_reverse (by rw [HNa.out]; exact hlt), HNa.out]; exact gs
        rw [List.take_add_one, this]; rfl)
      have HM63 : Hid ((La.reverse.take j).length + 1 ≤ maxLen) := Lib.hid (by unfold maxLen; simp; omega)
      have HMB : Hid (((La.reverse.take j).length + 1) * 16 ≤ 140737488355328) := Lib.hid (by simp; omega)
      obtain ⟨i, hi⟩ : ∃ i : Nat, na - 1 - j = i := ⟨_, rfl⟩
      rw [hi] at c0 c1 gs
      have hii : (na : Int) - 1 - (j : Int) = (i : Int) := by omega
      have hiz : (0 : Int) ≤ (i : Int) := by omega
      have hin : (i : Int) < (na : Int) := by omega
      have HI0 : Hid (i + j + 1 = na) := Lib.hid (by omega)
      rw [hii]
      clear gs hi hii hj hlt
      go_wp2_with (at_builtin; refine Lay.wpList_append (E := LSpan) rfl (.tmp 27) (.tmp 32) 22 rfl W4.heap.size 33 i0 (.agg #[.int .i64 0, .int .i64 0]) 16 Try.underlying22 hi0 hzi0 hzi1 hzi2 rfl _ (La.reverse.take j) rfl (HO.out.ext (Ext.alloc _ _)) (some ⟨wr.heap.size, 0, none⟩) 1 1 ([(f, t)]) rfl (fun _ => ⟨_, _, rfl⟩) (Nat.le_refl _) (plain_span.lit (Ext.refl _) (Lay.All.single ⟨_, _, rfl, ⟨rfl, HW0.out⟩, ⟨rfl, HW1.out⟩⟩) rfl rfl (by decide)) HM63.out HMB.out (Nat.le_trans hxr.size (Ext.alloc wr _).size) ?_; intro v2 w2 hown2 hg2; have X2 := HO.out.below hxr (Nat.le_refl _) (grown_of (Ext.alloc wr _) hg2); rw [← HT.out] at hown2; have HO3 := Lib.hid hown2; clear hown2 hg2 HO)
      go_roundw
      case rel => exact ⟨j + 1, by have := HI0.out; omega, by have := HI0.out; congr 1; omega, HO3.out, X2⟩
      case measure => first | (simp [intOf]; done) | (simp [intOf]; omega)
    · obtain rfl : j = na := by omega
      have hmi : (j : Int) - 1 - (j : Int) = -1 := by omega
      rw [hmi]
      clear hmi
      have e0 : La.reverse.take j = La.reverse := List.take_of_length_le (by rw [List.length_reverse, HNa.out]; omega)
      rw [e0] at HO
      clear e0
      have hxx : Ext W4 wr := hxr
      have hxn : True := trivial
      have HSa := Lib.hid (HSa.out.ext hxx)
      have HSb := Lib.hid (HSb.out.ext hxx)
      have HS1 := Lib.hid (HS1.out.ext hxx)
      have HX := Lib.hid (Ext.trans HX.out hxx)
      clear hxn hxx
      have HRa := Lib.hid (HRa.out.ext hxr)
      have HSback := Lib.hid HO.out.sl
      have HLback : Hid (La.reverse.length ≤ 40) := Lib.hid (by rw [List.length_reverse]; exact HLa.out)
      clear hxr
      obtain ⟨pb, nb, cb, hvb, hrb, hncb, hcb, hplb⟩ := HSback.out
      subst hvb
      have HRb := Lib.hid hrb
      have HPb := Lib.hid hplb
      have HNb : Hid (La.reverse.length = nb) := Lib.hid hrb.1
      have hnb : nb ≤ 40 := by have h1 := HLback.out; have h2 := hrb.1; omega
      clear hrb hplb
      have HO1 : Hid (LSpan.Own (wr.alloc (.cells #[] 33)) wr.heap.size 33 (.slice (some ⟨wr.heap.size, 0, none⟩) 0 0) []) := Lib.hid (Lay.Own.made (E := LSpan) _ #[] 0 _ _ (Nat.le_refl _) (by decide) rfl)
      go_wp2_with (first | (at_builtin; refine Lay.wpList_append (E := LSpan) rfl (.tmp 34) (.tmp 35) 22 rfl wr.heap.size 33 i0 (.agg #[.int .i64 0, .int .i64 0]) 16 Try.underlying22 hi0 hzi0 hzi1 hzi2 rfl _ ([]) rfl (HO1.out) (pa) j ca (La) rfl HPa.out hnca (plain_span.row (HRa.out.ext (Ext.alloc _ _))) (by unfold maxLen; simp; omega) (by simp; omega) (by simp) ?_; intro v1 wa hown1 hg1; have XA := HO1.out.below (w0 := wr) (Ext.alloc _ _) (Nat.le_refl _) hg1; rw [List.nil_append] at hown1; have HO2 := Lib.hid hown1; clear hown1 hg1) | (at_builtin; refine Lay.wpList_append (E := LSpan) rfl (.tmp 37) (.tmp 38) 22 rfl wr.heap.size 33 i0 (.agg #[.int .i64 0, .int .i64 0]) 16 Try.underlying22 hi0 hzi0 hzi1 hzi2 rfl _ (La) rfl (HO2.out) (pb) nb cb (La.reverse) rfl HPb.out hncb (plain_span.row (HRb.out.ext XA)) (by have h1 := HLa.out; unfold maxLen; omega) (by have h1 := HLa.out; omega) XA.size ?_; intro v2 wb hown2 hg2; have XB := HO2.out.below XA (Nat.le_refl _) hg2; have HO3 := Lib.hid hown2; clear hown2 hg2))
      have hxx : Ext wr wb := XB
      have hxn : True := trivial
      have HSa := Lib.hid (HSa.out.ext hxx)
      have HSb := Lib.hid (HSb.out.ext hxx)
      have HS1 := Lib.hid (HS1.out.ext hxx)
      have HSback := Lib.hid (HSback.out.ext hxx)
      have HX := Lib.hid (Ext.trans HX.out hxx)
      clear hxn hxx
      have HStw := Lib.hid HO3.out.sl
      have HLtw : Hid ((La ++ La.reverse).length ≤ 80) := Lib.hid (by have h1 := HLa.out; rw [List.length_append, List.length_reverse]; omega)
      have HSnil : Hid (LSpan.Sl wb (.slice none 0 0) []) := Lib.hid (Lay.Sl.nil _ _)
      have HLnil : Hid (([] : List Span).length ≤ 0) := Lib.hid (Nat.le_refl _)
      clear XA XB HO HO1 HO2 HO3 HRa HRb
      go_wp2_with fail
      refine (ordered_v _ L1 _ (HS1.out.ext (by (unfold Ext; repeat (first | exact Below.refl _ _ | assumption | refine Below.drew ?_ | refine below_drewN ?_ _ | refine Below.alloc ?_ (by first | exact Nat.le_refl _ | (simp; done) | (simp; omega) | omega) _ | refine Below.setCell ?_ (by first | exact Nat.le_refl _ | (simp; done) | (simp; omega) | omega) _)))) HI1.out.ord).mono ?_
      rintro e W51 ⟨rfl, hxn⟩
      have hxx : Ext wb W51 := Ext.trans (by (unfold Ext; repeat (first | exact Below.refl _ _ | assumption | refine Below.drew ?_ | refine below_drewN ?_ _ | refine Below.alloc ?_ (by first | exact Nat.le_refl _ | (simp; done) | (simp; omega) | omega) _ | refine Below.setCell ?_ (by first | exact Nat.le_refl _ | (simp; done) | (simp; omega) | omega) _))) hxn
      have HSa := Lib.hid (HSa.out.ext hxx)
      have HSb := Lib.hid (HSb.out.ext hxx)
      have HS1 := Lib.hid (HS1.out.ext hxx)
      have HSback := Lib.hid (HSback.out.ext hxx)
      have HStw := Lib.hid (HStw.out.ext hxx)
      have HSnil := Lib.hid (HSnil.out.ext hxx)
      have HX := Lib.hid (Ext.trans HX.out hxx)
      clear hxn hxx
      go_wp2_with fail
      refine (add_v _ _ La Lb _ (HSa.out.ext (by (unfold Ext; repeat (first | exact Below.refl _ _ | assumption | refine Below.drew ?_ | refine below_drewN ?_ _ | refine Below.alloc ?_ (by first | exact Nat.le_refl _ | (simp; done) | (simp; omega) | omega) _ | refine Below.setCell ?_ (by first | exact Nat.le_refl _ | (simp; done) | (simp; omega) | omega) _)))) (HSb.out.ext (by (unfold Ext; repeat (first | exact Below.refl _ _ | assumption | refine Below.drew ?_ | refine below_drewN ?_ _ | refine Below.alloc ?_ (by first | exact Nat.le_refl _ | (simp; done) | (simp; omega) | omega) _ | refine Below.setCell ?_ (by first | exact Nat.le_refl _ | (simp; done) | (simp; omega) | omega) _)))) (by have h0 := HLa.out; have h1 := HLb.out; omega)).mono ?_
      rintro e W52 ⟨⟨v3, rfl, hown⟩, hi, hxn⟩
      have hxx : Ext W51 W52 := Ext.trans (by (unfold Ext; repeat (first | exact Below.refl _ _ | assumption | refine Below.drew ?_ | refine below_drewN ?_ _ | refine Below.alloc ?_ (by first | exact Nat.le_refl _ | (simp; done) | (simp; omega) | omega) _ | refine Below.setCell ?_ (by first | exact Nat.le_refl _ | (simp; done) | (simp; omega) | omega) _))) hxn
      obtain ⟨L3, hL⟩ : ∃ L, ofL fOr La Lb = L := ⟨_, rfl⟩
      rw [hL] at hown hi
      have HSa := Lib.hid (HSa.out.ext hxx)
      have HSb := Lib.hid (HSb.out.ext hxx)
      have HS1 := Lib.hid (HS1.out.ext hxx)
      have HSback := Lib.hid (HSback.out.ext hxx)
      have HStw := Lib.hid (HStw.out.ext hxx)
      have HSnil := Lib.hid (HSnil.out.ext hxx)
      have HX := Lib.hid (Ext.trans HX.out hxx)
      clear hxn hxx
      have HS3 := Lib.hid hown.sl
      have HI3 := hi
      have HL3 : Hid (L3.length ≤ 161) := Lib.hid (by have h := hi.out.len; have h1 := HLa.out; have h2 := HLb.out; omega)
      clear hown hi hL
      go_wp2_with fail
      refine (ordered_v _ L3 _ (HS3.out.ext (by (unfold Ext; repeat (first | exact Below.refl _ _ | assumption | refine Below.drew ?_ | refine below_drewN ?_ _ | refine Below.alloc ?_ (by first | exact Nat.le_refl _ | (simp; done) | (simp; omega) | omega) _ | refine Below.setCell ?_ (by first | exact Nat.le_refl _ | (simp; done) | (simp; omega) | omega) _)))) HI3.out.ord).mono ?_
      rintro e W53 ⟨rfl, hxn⟩
      have hxx : Ext W52 W53 := Ext.trans (by (unfold Ext; repeat (first | exact Below.refl _ _ | assumption | refine Below.drew ?_ | refine below_drewN ?_ _ | refine Below.alloc ?_ (by first | exact Nat.le_refl _ | (simp; done) | (simp; omega) | omega) _ | refine Below.setCell ?_ (by first | exact Nat.le_refl _ | (simp; done) | (simp; omega) | omega) _))) hxn
      have HSa := Lib.hid (HSa.out.ext hxx)
      have HSb := Lib.hid (HSb.out.ext hxx)
      have HS1 := Lib.hid (HS1.out.ext hxx)
      have HSback := Lib.hid (HSback.out.ext hxx)
      have HStw := Lib.hid (HStw.out.ext hxx)
      have HSnil := Lib.hid (HSnil.out.ext hxx)
      have HS3 := Lib.hid (HS3.out.ext hxx)
      have HX := Lib.hid (Ext.trans HX.out hxx)
      clear hxn hxx
      go_wp2_with fail
      refine (cut_v _ _ La Lb _ (HSa.out.ext (by (unfold Ext; repeat (first | exact Below.refl _ _ | assumption | refine Below.drew ?_ | refine below_drewN ?_ _ | refine Below.alloc ?_ (by first | exact Nat.le_refl _ | (simp; done) | (simp; omega) | omega) _ | refine Below.setCell ?_ (by first | exact Nat.le_refl _ | (simp; done) | (simp; omega) | omega) _)))) (HSb.out.ext (by (unfold Ext; repeat (first | exact Below.refl _ _ | assumption | refine Below.drew ?_ | refine below_drewN ?_ _ | refine Below.alloc ?_ (by first | exact Nat.le_refl _ | (simp; done) | (simp; omega) | omega) _ | refine Below.setCell ?_ (by first | exact Nat.le_refl _ | (simp; done) | (simp; omega) | omega) _)))) (by have h0 := HLa.out; have h1 := HLb.out; omega)).mono ?_
      rintro e W54 ⟨⟨v4, rfl, hown⟩, hi, hxn⟩
      have hxx : Ext W53 W54 := Ext.trans (by (unfold Ext; repeat (first | exact Below.refl _ _ | assumption | refine Below.drew ?_ | refine below_drewN ?_ _ | refine Below.alloc ?_ (by first | exact Nat.le_refl _ | (simp; done) | (simp; omega) | omega) _ | refine Below.setCell ?_ (by first | exact Nat.le_refl _ | (simp; done) | (simp; omega) | omega) _))) hxn
      obtain ⟨L4, hL⟩ : ∃ L, ofL fCut La Lb = L := ⟨_, rfl⟩
      rw [hL] at hown hi
      have HSa := Lib.hid (HSa.out.ext hxx)
      have HSb := Lib.hid (HSb.out.ext hxx)
      have HS1 := Lib.hid (HS1.out.ext hxx)
      have HSback := Lib.hid (HSback.out.ext hxx)
      have HStw := Lib.hid (HStw.out.ext hxx)
      have HSnil := Lib.hid (HSnil.out.ext hxx)
      have HS3 := Lib.hid (HS3.out.ext hxx)
      have HX := Lib.hid (Ext.trans HX.out hxx)
      clear hxn hxx
      have HS4 := Lib.hid hown.sl
      have HI4 := hi
      have HL4 : Hid (L4.length ≤ 161) := Lib.hid (by have h := hi.out.len; have h1 := HLa.out; have h2 := HLb.out; omega)
      clear hown hi hL
      go_wp2_with fail
      refine (ordered_v _ L4 _ (HS4.out.ext (by (unfold Ext; repeat (first | exact Below.refl _ _ | assumption | refine Below.drew ?_ | refine below_drewN ?_ _ | refine Below.alloc ?_ (by first | exact Nat.le_refl _ | (simp; done) | (simp; omega) | omega) _ | refine Below.setCell ?_ (by first | exact Nat.le_refl _ | (simp; done) | (simp; omega) | omega) _)))) HI4.out.ord).mono ?_
      rintro e W55 ⟨rfl, hxn⟩
      have hxx : Ext W54 W55 := Ext.trans (by (unfold Ext; repeat (first | exact Below.refl _ _ | assumption | refine Below.drew ?_ | refine below_drewN ?_ _ | refine Below.alloc ?_ (by first | exact Nat.le_refl _ | (simp; done) | (simp; omega) | omega) _ | refine Below.setCell ?_ (by first | exact Nat.le_refl _ | (simp; done) | (simp; omega) | omega) _))) hxn
      have HSa := Lib.hid (HSa.out.ext hxx)
      have HSb := Lib.hid (HSb.out.ext hxx)
      have HS1 := Lib.hid (HS1.out.ext hxx)
      have HSback := Lib.hid (HSback.out.ext hxx)
      have HStw := Lib.hid (HStw.out.ext hxx)
      have HSnil := Lib.hid (HSnil.out.ext hxx)
      have HS3 := Lib.hid (HS3.out.ext hxx)
      have HS4 := Lib.hid (HS4.out.ext hxx)
      have HX := Lib.hid (Ext.trans HX.out hxx)
      clear hxn hxx
      go_wp2_with fail
      refine (meet_v _ _ La Lb _ (HSa.out.ext (by (unfold Ext; repeat (first | exact Below.refl _ _ | assumption | refine Below.drew ?_ | refine below_drewN ?_ _ | refine Below.alloc ?_ (by first | exact Nat.le_refl _ | (simp; done) | (simp; omega) | omega) _ | refine Below.setCell ?_ (by first | exact Nat.le_refl _ | (simp; done) | (simp; omega) | omega) _)))) (HSb.out.ext (by (unfold Ext; repeat (first | exact Below.refl _ _ | assumption | refine Below.drew ?_ | refine below_drewN ?_ _ | refine Below.alloc ?_ (by first | exact Nat.le_refl _ | (simp; done) | (simp; omega) | omega) _ | refine Below.setCell ?_ (by first | exact Nat.le_refl _ | (simp; done) | (simp; omega) | omega) _)))) (by have h0 := HLa.out; have h1 := HLb.out; omega)).mono ?_
      rintro e W56 ⟨⟨v5, rfl, hown⟩, hi, hxn⟩
      have hxx : Ext W55 W56 := Ext.trans (by (unfold Ext; repeat (first | exact Below.refl _ _ | assumption | refine Below.drew ?_ | refine below_drewN ?_ _ | refine Below.alloc ?_ (by first | exact Nat.le_refl _ | (simp; done) | (simp; omega) | omega) _ | refine Below.setCell ?_ (by first | exact Nat.le_refl _ | (simp; done) | (simp; omega) | omega) _))) hxn
      obtain ⟨L5, hL⟩ : ∃ L, ofL fAnd La Lb = L := ⟨_, rfl⟩
      rw [hL] at hown hi
      have HSa := Lib.hid (HSa.out.ext hxx)
      have HSb := Lib.hid (HSb.out.ext hxx)
      have HS1 := Lib.hid (HS1.out.ext hxx)
      have HSback := Lib.hid (HSback.out.ext hxx)
      have HStw := Lib.hid (HStw.out.ext hxx)
      have HSnil := Lib.hid (HSnil.out.ext hxx)
      have HS3 := Lib.hid (HS3.out.ext hxx)
      have HS4 := Lib.hid (HS4.out.ext hxx)
      have HX := Lib.hid (Ext.trans HX.out hxx)
      clear hxn hxx
      have HS5 := Lib.hid hown.sl
      have HI5 := hi
      have HL5 : Hid (L5.length ≤ 161) := Lib.hid (by have h := hi.out.len; have h1 := HLa.out; have h2 := HLb.out; omega)
      clear hown hi hL
      go_wp2_with fail
      refine (ordered_v _ L5 _ (HS5.out.ext (by (unfold Ext; repeat (first | exact Below.refl _ _ | assumption | refine Below.drew ?_ | refine below_drewN ?_ _ | refine Below.alloc ?_ (by first | exact Nat.le_refl _ | (simp; done) | (simp; omega) | omega) _ | refine Below.setCell ?_ (by first | exact Nat.le_refl _ | (simp; done) | (simp; omega) | omega) _)))) HI5.out.ord).mono ?_
      rintro e W57 ⟨rfl, hxn⟩
      have hxx : Ext W56 W57 := Ext.trans (by (unfold Ext; repeat (first | exact Below.refl _ _ | assumption | refine Below.drew ?_ | refine below_drewN ?_ _ | refine Below.alloc ?_ (by first | exact Nat.le_refl _ | (simp; done) | (simp; omega) | omega) _ | refine Below.setCell ?_ (by first | exact Nat.le_refl _ | (simp; done) | (simp; omega) | omega) _))) hxn
      have HSa := Lib.hid (HSa.out.ext hxx)
      have HSb := Lib.hid (HSb.out.ext hxx)
      have HS1 := Lib.hid (HS1.out.ext hxx)
      have HSback := Lib.hid (HSback.out.ext hxx)
      have HStw := Lib.hid (HStw.out.ext hxx)
      have HSnil := Lib.hid (HSnil.out.ext hxx)
      have HS3 := Lib.hid (HS3.out.ext hxx)
      have HS4 := Lib.hid (HS4.out.ext hxx)
      have HS5 := Lib.hid (HS5.out.ext hxx)
      have HX := Lib.hid (Ext.trans HX.out hxx)
      clear hxn hxx
      go_wp2_with fail
      refine (norm_v _ L1 _ (HS1.out.ext (by (unfold Ext; repeat (first | exact Below.refl _ _ | assumption | refine Below.drew ?_ | refine below_drewN ?_ _ | refine Below.alloc ?_ (by first | exact Nat.le_refl _ | (simp; done) | (simp; omega) | omega) _ | refine Below.setCell ?_ (by first | exact Nat.le_refl _ | (simp; done) | (simp; omega) | omega) _)))) (by have h0 := HL1.out; omega)).mono ?_
      rintro e W58 ⟨⟨v6, rfl, hown⟩, hi, hxn⟩
      have hxx : Ext W57 W58 := Ext.trans (by (unfold Ext; repeat (first | exact Below.refl _ _ | assumption | refine Below.drew ?_ | refine below_drewN ?_ _ | refine Below.alloc ?_ (by first | exact Nat.le_refl _ | (simp; done) | (simp; omega) | omega) _ | refine Below.setCell ?_ (by first | exact Nat.le_refl _ | (simp; done) | (simp; omega) | omega) _))) hxn
      obtain ⟨L6, hL⟩ : ∃ L, ofL fOr L1 [] = L := ⟨_, rfl⟩
      rw [hL] at hown hi
      have HSa := Lib.hid (HSa.out.ext hxx)
      have HSb := Lib.hid (HSb.out.ext hxx)
      have HS1 := Lib.hid (HS1.out.ext hxx)
      have HSback := Lib.hid (HSback.out.ext hxx)
      have HStw := Lib.hid (HStw.out.ext hxx)
      have HSnil := Lib.hid (HSnil.out.ext hxx)
      have HS3 := Lib.hid (HS3.out.ext hxx)
      have HS4 := Lib.hid (HS4.out.ext hxx)
      have HS5 := Lib.hid (HS5.out.ext hxx)
      have HX := Lib.hid (Ext.trans HX.out hxx)
      clear hxn hxx
      have HS6 := Lib.hid hown.sl
      have HI6 := hi
      have HL6 : Hid (L6.length ≤ 163) := Lib.hid (by have h := hi.out.len; have h1 := HL1.out; simp only [List.length_nil, Nat.add_zero] at h; omega)
      clear hown hi hL
      go_wp2_with fail
      refine (same_v _ _ L6 L1 _ (HS6.out.ext (by (unfold Ext; repeat (first | exact Below.refl _ _ | assumption | refine Below.drew ?_ | refine below_drewN ?_ _ | refine Below.alloc ?_ (by first | exact Nat.le_refl _ | (simp; done) | (simp; omega) | omega) _ | refine Below.setCell ?_ (by first | exact Nat.le_refl _ | (simp; done) | (simp; omega) | omega) _)))) (HS1.out.ext (by (unfold Ext; repeat (first | exact Below.refl _ _ | assumption | refine Below.drew ?_ | refine below_drewN ?_ _ | refine Below.alloc ?_ (by first | exact Nat.le_refl _ | (simp; done) | (simp; omega) | omega) _ | refine Below.setCell ?_ (by first | exact Nat.le_refl _ | (simp; done) | (simp; omega) | omega) _))))).mono ?_
      rintro e W59 ⟨rfl, hxn⟩
      have hxx : Ext W58 W59 := Ext.trans (by (unfold Ext; repeat (first | exact Below.refl _ _ | assumption | refine Below.drew ?_ | refine below_drewN ?_ _ | refine Below.alloc ?_ (by first | exact Nat.le_refl _ | (simp; done) | (simp; omega) | omega) _ | refine Below.setCell ?_ (by first | exact Nat.le_refl _ | (simp; done) | (simp; omega) | omega) _))) hxn
      rw [decide_eq_true (show L6 = L1 from ordered_uniq HI6.out.ord HI1.out.ord (fun t => by simp only [HI6.out.set t, HI1.out.set t, fOr, hasB_nil] <;> (cases hasB La t <;> rfl)))]
      have HSa := Lib.hid (HSa.out.ext hxx)
      have HSb := Lib.hid (HSb.out.ext hxx)
      have HS1 := Lib.hid (HS1.out.ext hxx)
      have HSback := Lib.hid (HSback.out.ext hxx)
      have HStw := Lib.hid (HStw.out.ext hxx)
      have HSnil := Lib.hid (HSnil.out.ext hxx)
      have HS3 := Lib.hid (HS3.out.ext hxx)
      have HS4 := Lib.hid (HS4.out.ext hxx)
      have HS5 := Lib.hid (HS5.out.ext hxx)
      have HS6 := Lib.hid (HS6.out.ext hxx)
      have HX := Lib.hid (Ext.trans HX.out hxx)
      clear hxn hxx
      go_wp2_with fail
      refine (norm_v _ La.reverse _ (HSback.out.ext (by (unfold Ext; repeat (first | exact Below.refl _ _ | assumption | refine Below.drew ?_ | refine below_drewN ?_ _ | refine Below.alloc ?_ (by first | exact Nat.le_refl _ | (simp; done) | (simp; omega) | omega) _ | refine Below.setCell ?_ (by first | exact Nat.le_refl _ | (simp; done) | (simp; omega) | omega) _)))) (by have h0 := HLback.out; omega)).mono ?_
      rintro e W60 ⟨⟨v7, rfl, hown⟩, hi, hxn⟩
      have hxx : Ext W59 W60 := Ext.trans (by (unfold Ext; repeat (first | exact Below.refl _ _ | assumption | refine Below.drew ?_ | refine below_drewN ?_ _ | refine Below.alloc ?_ (by first | exact Nat.le_refl _ | (simp; done) | (simp; omega) | omega) _ | refine Below.setCell ?_ (by first | exact Nat.le_refl _ | (simp; done) | (simp; omega) | omega) _))) hxn
      obtain ⟨L7, hL⟩ : ∃ L, ofL fOr La.reverse [] = L := ⟨_, rfl⟩
      rw [hL] at hown hi
      have HSa := Lib.hid (HSa.out.ext hxx)
      have HSb := Lib.hid (HSb.out.ext hxx)
      have HS1 := Lib.hid (HS1.out.ext hxx)
      have HSback := Lib.hid (HSback.out.ext hxx)
      have HStw := Lib.hid (HStw.out.ext hxx)
      have HSnil := Lib.hid (HSnil.out.ext hxx)
      have HS3 := Lib.hid (HS3.out.ext hxx)
      have HS4 := Lib.hid (HS4.out.ext hxx)
      have HS5 := Lib.hid (HS5.out.ext hxx)
      have HS6 := Lib.hid (HS6.out.ext hxx)
      have HX := Lib.hid (Ext.trans HX.out hxx)
      clear hxn hxx
      have HS7 := Lib.hid hown.sl
      have HI7 := hi
      have HL7 : Hid (L7.length ≤ 81) := Lib.hid (by have h := hi.out.len; have h1 := HLback.out; simp only [List.length_nil, Nat.add_zero] at h; omega)
      clear hown hi hL
      go_wp2_with fail
      refine (same_v _ _ L7 L1 _ (HS7.out.ext (by (unfold Ext; repeat (first | exact Below.refl _ _ | assumption | refine Below.drew ?_ | refine below_drewN ?_ _ | refine Below.alloc ?_ (by first | exact Nat.le_refl _ | (simp; done) | (simp; omega) | omega) _ | refine Below.setCell ?_ (by first | exact Nat.le_refl _ | (simp; done) | (simp; omega) | omega) _)))) (HS1.out.ext (by (unfold Ext; repeat (first | exact Below.refl _ _ | assumption | refine Below.drew ?_ | refine below_drewN ?_ _ | refine Below.alloc ?_ (by first | exact Nat.le_refl _ | (simp; done) | (simp; omega) | omega) _ | refine Below.setCell ?_ (by first | exact Nat.le_refl _ | (simp; done) | (simp; omega) | omega) _))))).mono ?_
      rintro e W61 ⟨rfl, hxn⟩
      have hxx : Ext W60 W61 := Ext.trans (by (unfold Ext; repeat (first | exact Below.refl _ _ | assumption | refine Below.drew ?_ | refine below_drewN ?_ _ | refine Below.alloc ?_ (by first | exact Nat.le_refl _ | (simp; done) | (simp; omega) | omega) _ | refine Below.setCell ?_ (by first | exact Nat.le_refl _ | (simp; done) | (simp; omega) | omega) _))) hxn
      rw [decide_eq_true (show L7 = L1 from ordered_uniq HI7.out.ord HI1.out.ord (fun t => by simp only [HI7.out.set t, HI1.out.set t, fOr, hasB_nil, hasB_reverse] <;> (cases hasB La t <;> rfl)))]
      have HSa := Lib.hid (HSa.out.ext hxx)
      have HSb := Lib.hid (HSb.out.ext hxx)
      have HS1 := Lib.hid (HS1.out.ext hxx)
      have HSback := Lib.hid (HSback.out.ext hxx)
      have HStw := Lib.hid (HStw.out.ext hxx)
      have HSnil := Lib.hid (HSnil.out.ext hxx)
      have HS3 := Lib.hid (HS3.out.ext hxx)
      have HS4 := Lib.hid (HS4.out.ext hxx)
      have HS5 := Lib.hid (HS5.out.ext hxx)
      have HS6 := Lib.hid (HS6.out.ext hxx)
      have HS7 := Lib.hid (HS7.out.ext hxx)
      have HX := Lib.hid (Ext.trans HX.out hxx)
      clear hxn hxx
      go_wp2_with fail
      refine (norm_v _ (La ++ La.reverse) _ (HStw.out.ext (by (unfold Ext; repeat (first | exact Below.refl _ _ | assumption | refine Below.drew ?_ | refine below_drewN ?_ _ | refine Below.alloc ?_ (by first | exact Nat.le_refl _ | (simp; done) | (simp; omega) | omega) _ | refine Below.setCell ?_ (by first | exact Nat.le_refl _ | (simp; done) | (simp; omega) | omega) _)))) (by have h0 := HLtw.out; omega)).mono ?_
      rintro e W62 ⟨⟨v8, rfl, hown⟩, hi, hxn⟩
      have hxx : Ext W61 W62 := Ext.trans (by (unfold Ext; repeat (first | exact Below.refl _ _ | assumption | refine Below.drew ?_ | refine below_drewN ?_ _ | refine Below.alloc ?_ (by first | exact Nat.le_refl _ | (simp; done) | (simp; omega) | omega) _ | refine Below.setCell ?_ (by first | exact Nat.le_refl _ | (simp; done) | (simp; omega) | omega) _))) hxn
      obtain ⟨L8, hL⟩ : ∃ L, ofL fOr (La ++ La.reverse) [] = L := ⟨_, rfl⟩
      rw [hL] at hown hi
      have HSa := Lib.hid (HSa.out.ext hxx)
      have HSb := Lib.hid (HSb.out.ext hxx)
      have HS1 := Lib.hid (HS1.out.ext hxx)
      have HSback := Lib.hid (HSback.out.ext hxx)
      have HStw := Lib.hid (HStw.out.ext hxx)
      have HSnil := Lib.hid (HSnil.out.ext hxx)
      have HS3 := Lib.hid (HS3.out.ext hxx)
      have HS4 := Lib.hid (HS4.out.ext hxx)
      have HS5 := Lib.hid (HS5.out.ext hxx)
      have HS6 := Lib.hid (HS6.out.ext hxx)
      have HS7 := Lib.hid (HS7.out.ext hxx)
      have HX := Lib.hid (Ext.trans HX.out hxx)
      clear hxn hxx
      have HS8 := Lib.hid hown.sl
      have HI8 := hi
      have HL8 : Hid (L8.length ≤ 161) := Lib.hid (by have h := hi.out.len; have h1 := HLtw.out; simp only [List.length_nil, Nat.add_zero] at h; omega)
      clear hown hi hL
      go_wp2_with fail
      refine (same_v _ _ L8 L1 _ (HS8.out.ext (by (unfold Ext; repeat (first | exact Below.refl _ _ | assumption | refine Below.drew ?_ | refine below_drewN ?_ _ | refine Below.alloc ?_ (by first | exact Nat.le_refl _ | (simp; done) | (simp; omega) | omega) _ | refine Below.setCell ?_ (by first | exact Nat.le_refl _ | (simp; done) | (simp; omega) | omega) _)))) (HS1.out.ext (by (unfold Ext; repeat (first | exact Below.refl _ _ | assumption | refine Below.drew ?_ | refine below_drewN ?_ _ | refine Below.alloc ?_ (by first | exact Nat.le_refl _ | (simp; done) | (simp; omega) | omega) _ | refine Below.setCell ?_ (by first | exact Nat.le_refl _ | (simp; done) | (simp; omega) | omega) _))))).mono ?_
      rintro e W63 ⟨rfl, hxn⟩
      have hxx : Ext W62 W63 := Ext.trans (by (unfold Ext; repeat (first | exact Below.refl _ _ | assumption | refine Below.drew ?_ | refine below_drewN ?_ _ | refine Below.alloc ?_ (by first | exact Nat.le_refl _ | (simp; done) | (simp; omega) | omega) _ | refine Below.setCell ?_ (by first | exact Nat.le_refl _ | (simp; done) | (simp; omega) | omega) _))) hxn
      rw [decide_eq_true (show L8 = L1 from ordered_uniq HI8.out.ord HI1.out.ord (fun t => by simp only [HI8.out.set t, HI1.out.set t, fOr, hasB_nil, hasB_reverse, hasB_append] <;> (cases hasB La t <;> rfl)))]
      have HSa := Lib.hid (HSa.out.ext hxx)
      have HSb := Lib.hid (HSb.out.ext hxx)
      have HS1 := Lib.hid (HS1.out.ext hxx)
      have HSback := Lib.hid (HSback.out.ext hxx)
      have HStw := Lib.hid (HStw.out.ext hxx)
      have HSnil := Lib.hid (HSnil.out.ext hxx)
      have HS3 := Lib.hid (HS3.out.ext hxx)
      have HS4 := Lib.hid (HS4.out.ext hxx)
      have HS5 := Lib.hid (HS5.out.ext hxx)
      have HS6 := Lib.hid (HS6.out.ext hxx)
      have HS7 := Lib.hid (HS7.out.ext hxx)
      have HS8 := Lib.hid (HS8.out.ext hxx)
      have HX := Lib.hid (Ext.trans HX.out hxx)
      clear hxn hxx
      go_wp2_with fail
      refine (add_v _ _ La [] _ (HSa.out.ext (by (unfold Ext; repeat (first | exact Below.refl _ _ | assumption | refine Below.drew ?_ | refine below_drewN ?_ _ | refine Below.alloc ?_ (by first | exact Nat.le_refl _ | (simp; done) | (simp; omega) | omega) _ | refine Below.setCell ?_ (by first | exact Nat.le_refl _ | (simp; done) | (simp; omega) | omega) _)))) (HSnil.out.ext (by (unfold Ext; repeat (first | exact Below.refl _ _ | assumption | refine Below.drew ?_ | refine below_drewN ?_ _ | refine Below.alloc ?_ (by first | exact Nat.le_refl _ | (simp; done) | (simp; omega) | omega) _ | refine Below.setCell ?_ (by first | exact Nat.le_refl _ | (simp; done) | (simp; omega) | omega) _)))) (by have h0 := HLa.out; have h1 := HLnil.out; omega)).mono ?_
      rintro e W64 ⟨⟨v9, rfl, hown⟩, hi, hxn⟩
      have hxx : Ext W63 W64 := Ext.trans (by (unfold Ext; repeat (first | exact Below.refl _ _ | assumption | refine Below.drew ?_ | refine below_drewN ?_ _ | refine Below.alloc ?_ (by first | exact Nat.le_refl _ | (simp; done) | (simp; omega) | omega) _ | refine Below.setCell ?_ (by first | exact Nat.le_refl _ | (simp; done) | (simp; omega) | omega) _))) hxn
      obtain ⟨L9, hL⟩ : ∃ L, ofL fOr La [] = L := ⟨_, rfl⟩
      rw [hL] at hown hi
      have HSa := Lib.hid (HSa.out.ext hxx)
      have HSb := Lib.hid (HSb.out.ext hxx)
      have HS1 := Lib.hid (HS1.out.ext hxx)
      have HSback := Lib.hid (HSback.out.ext hxx)
      have HStw := Lib.hid (HStw.out.ext hxx)
      have HSnil := Lib.hid (HSnil.out.ext hxx)
      have HS3 := Lib.hid (HS3.out.ext hxx)
      have HS4 := Lib.hid (HS4.out.ext hxx)
      have HS5 := Lib.hid (HS5.out.ext hxx)
      have HS6 := Lib.hid (HS6.out.ext hxx)
      have HS7 := Lib.hid (HS7.out.ext hxx)
      have HS8 := Lib.hid (HS8.out.ext hxx)
      have HX := Lib.hid (Ext.trans HX.out hxx)
      clear hxn hxx
      have HS9 := Lib.hid hown.sl
      have HI9 := hi
      have HL9 : Hid (L9.length ≤ 81) := Lib.hid (by have h := hi.out.len; have h1 := HLa.out; have h2 := HLnil.out; omega)
      clear hown hi hL
      go_wp2_with fail
      refine (same_v _ _ L9 L1 _ (HS9.out.ext (by (unfold Ext; repeat (first | exact Below.refl _ _ | assumption | refine Below.drew ?_ | refine below_drewN ?_ _ | refine Below.alloc ?_ (by first | exact Nat.le_refl _ | (simp; done) | (simp; omega) | omega) _ | refine Below.setCell ?_ (by first | exact Nat.le_refl _ | (simp; done) | (simp; omega) | omega) _)))) (HS1.out.ext (by (unfold Ext; repeat (first | exact Below.refl _ _ | assumption | refine Below.drew ?_ | refine below_drewN ?_ _ | refine Below.alloc ?_ (by first | exact Nat.le_refl _ | (simp; done) | (simp; omega) | omega) _ | refine Below.setCell ?_ (by first | exact Nat.le_refl _ | (simp; done) | (simp; omega) | omega) _))))).mono ?_
      rintro e W65 ⟨rfl, hxn⟩
      have hxx : Ext W64 W65 := Ext.trans (by (unfold Ext; repeat (first | exact Below.refl _ _ | assumption | refine Below.drew ?_ | refine below_drewN ?_ _ | refine Below.alloc ?_ (by first | exact Nat.le_refl _ | (simp; done) | (simp; omega) | omega) _ | refine Below.setCell ?_ (by first | exact Nat.le_refl _ | (simp; done) | (simp; omega) | omega) _))) hxn
      rw [decide_eq_true (show L9 = L1 from ordered_uniq HI9.out.ord HI1.out.ord (fun t => by simp only [HI9.out.set t, HI1.out.set t, fOr, hasB_nil] <;> (cases hasB La t <;> rfl)))]
      have HSa := Lib.hid (HSa.out.ext hxx)
      have HSb := Lib.hid (HSb.out.ext hxx)
      have HS1 := Lib.hid (HS1.out.ext hxx)
      have HSback := Lib.hid (HSback.out.ext hxx)
      have HStw := Lib.hid (HStw.out.ext hxx)
      have HSnil := Lib.hid (HSnil.out.ext hxx)
      have HS3 := Lib.hid (HS3.out.ext hxx)
      have HS4 := Lib.hid (HS4.out.ext hxx)
      have HS5 := Lib.hid (HS5.out.ext hxx)
      have HS6 := Lib.hid (HS6.out.ext hxx)
      have HS7 := Lib.hid (HS7.out.ext hxx)
      have HS8 := Lib.hid (HS8.out.ext hxx)
      have HS9 := Lib.hid (HS9.out.ext hxx)
      have HX := Lib.hid (Ext.trans HX.out hxx)
      clear hxn hxx
      go_wp2_with fail
      refine (add_v _ _ L1 La _ (HS1.out.ext (by (unfold Ext; repeat (first | exact Below.refl _ _ | assumption | refine Below.drew ?_ | refine below_drewN ?_ _ | refine Below.alloc ?_ (by first | exact Nat.le_refl _ | (simp; done) | (simp; omega) | omega) _ | refine Below.setCell ?_ (by first | exact Nat.le_refl _ | (simp; done) | (simp; omega) | omega) _)))) (HSa.out.ext (by (unfold Ext; repeat (first | exact Below.refl _ _ | assumption | refine Below.drew ?_ | refine below_drewN ?_ _ | refine Below.alloc ?_ (by first | exact Nat.le_refl _ | (simp; done) | (simp; omega) | omega) _ | refine Below.setCell ?_ (by first | exact Nat.le_refl _ | (simp; done) | (simp; omega) | omega) _)))) (by have h0 := HL1.out; have h1 := HLa.out; omega)).mono ?_
      rintro e W66 ⟨⟨v10, rfl, hown⟩, hi, hxn⟩
      have hxx : Ext W65 W66 := Ext.trans (by (unfold Ext; repeat (first | exact Below.refl _ _ | assumption | refine Below.drew ?_ | refine below_drewN ?_ _ | refine Below.alloc ?_ (by first | exact Nat.le_refl _ | (simp; done) | (simp; omega) | omega) _ | refine Below.setCell ?_ (by first | exact Nat.le_refl _ | (simp; done) | (simp; omega) | omega) _))) hxn
      obtain ⟨L10, hL⟩ : ∃ L, ofL fOr L1 La = L := ⟨_, rfl⟩
      rw [hL] at hown hi
      have HSa := Lib.hid (HSa.out.ext hxx)
      have HSb := Lib.hid (HSb.out.ext hxx)
      have HS1 := Lib.hid (HS1.out.ext hxx)
      have HSback := Lib.hid (HSback.out.ext hxx)
      have HStw := Lib.hid (HStw.out.ext hxx)
      have HSnil := Lib.hid (HSnil.out.ext hxx)
      have HS3 := Lib.hid (HS3.out.ext hxx)
      have HS4 := Lib.hid (HS4.out.ext hxx)
      have HS5 := Lib.hid (HS5.out.ext hxx)
      have HS6 := Lib.hid (HS6.out.ext hxx)
      have HS7 := Lib.hid (HS7.out.ext hxx)
      have HS8 := Lib.hid (HS8.out.ext hxx)
      have HS9 := Lib.hid (HS9.out.ext hxx)
      have HX := Lib.hid (Ext.trans HX.out hxx)
      clear hxn hxx
      have HS10 := Lib.hid hown.sl
      have HI10 := hi
      have HL10 : Hid (L10.length ≤ 243) := Lib.hid (by have h := hi.out.len; have h1 := HL1.out; have h2 := HLa.out; omega)
      clear hown hi hL
      go_wp2_with fail
      refine (same_v _ _ L10 L1 _ (HS10.out.ext (by (unfold Ext; repeat (first | exact Below.refl _ _ | assumption | refine Below.drew ?_ | refine below_drewN ?_ _ | refine Below.alloc ?_ (by first | exact Nat.le_refl _ | (simp; done) | (simp; omega) | omega) _ | refine Below.setCell ?_ (by first | exact Nat.le_refl _ | (simp; done) | (simp; omega) | omega) _)))) (HS1.out.ext (by (unfold Ext; repeat (first | exact Below.refl _ _ | assumption | refine Below.drew ?_ | refine below_drewN ?_ _ | refine Below.alloc ?_ (by first | exact Nat.le_refl _ | (simp; done) | (simp; omega) | omega) _ | refine Below.setCell ?_ (by first | exact Nat.le_refl _ | (simp; done) | (simp; omega) | omega) _))))).mono ?_
      rintro e W67 ⟨rfl, hxn⟩
      have hxx : Ext W66 W67 := Ext.trans (by (unfold Ext; repeat (first | exact Below.refl _ _ | assumption | refine Below.drew ?_ | refine below_drewN ?_ _ | refine Below.alloc ?_ (by first | exact Nat.le_refl _ | (simp; done) | (simp; omega) | omega) _ | refine Below.setCell ?_ (by first | exact Nat.le_refl _ | (simp; done) | (simp; omega) | omega) _))) hxn
      rw [decide_eq_true (show L10 = L1 from ordered_uniq HI10.out.ord HI1.out.ord (fun t => by simp only [HI10.out.set t, HI1.out.set t, fOr, hasB_nil] <;> (cases hasB La t <;> rfl)))]
      have HSa := Lib.hid (HSa.out.ext hxx)
      have HSb := Lib.hid (HSb.out.ext hxx)
      have HS1 := Lib.hid (HS1.out.ext hxx)
      have HSback := Lib.hid (HSback.out.ext hxx)
      have HStw := Lib.hid (HStw.out.ext hxx)
      have HSnil := Lib.hid (HSnil.out.ext hxx)
      have HS3 := Lib.hid (HS3.out.ext hxx)
      have HS4 := Lib.hid (HS4.out.ext hxx)
      have HS5 := Lib.hid (HS5.out.ext hxx)
      have HS6 := Lib.hid (HS6.out.ext hxx)
      have HS7 := Lib.hid (HS7.out.ext hxx)
      have HS8 := Lib.hid (HS8.out.ext hxx)
      have HS9 := Lib.hid (HS9.out.ext hxx)
      have HS10 := Lib.hid (HS10.out.ext hxx)
      have HX := Lib.hid (Ext.trans HX.out hxx)
      clear hxn hxx
      go_wp2
      go_ret
      exact ⟨rfl, Ext.trans HX.out (by (unfold Ext; repeat (first | exact Below.refl _ _ | assumption | refine Below.drew ?_ | refine below_drewN ?_ _ | refine Below.alloc ?_ (by first | exact Nat.le_refl _ | (simp; done) | (simp; omega) | omega) _ | refine Below.setCell ?_ (by first | exact Nat.le_refl _ | (simp; done) | (simp; omega) | omega) _)))⟩
end Go.Proofs.Ytdpaagingfeoeaa.Sp
