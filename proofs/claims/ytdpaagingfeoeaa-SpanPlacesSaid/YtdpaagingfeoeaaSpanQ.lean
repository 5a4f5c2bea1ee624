/- Spans: the statement SpanPlaces. -/
import Derived.Test.YtdpaagingfeoeaaSpanI
namespace Go.Proofs.Ytdpaagingfeoeaa.Sp
open Go.RowKit Go.Proofs.Ytdpaagingfeoeaa
set_option linter.unusedVariables false

def PlR (w1 : World) (i : Value) (wr : World) : Prop := ∃ j : Nat, i = .int .i64 j ∧ j ≤ 3 ∧ Ext w1 wr
structure PlX (w1 w : World) : Prop where
  x : Ext w1 w
theorem PlX.ext {w1 w W : World} (h : PlX w1 w) (hx : Ext w W) : Ext w1 W := Ext.trans h.x hx
theorem PlX.next {w1 w W : World} (h : PlX w1 w) (hx : Ext w W) : PlX w1 W := ⟨Ext.trans h.x hx⟩

set_option maxRecDepth 100000 in
set_option maxHeartbeats 8000000 in
theorem places_walk {p0 : Option Addr} {n0 c0 : Nat} {l0 : List Span} {p1 : Option Addr} {n1 c1 : Nat} {l1 : List Span} {w : World} (h0 : LSpan.Row w p0 n0 l0) (f0 : n0 ≤ c0) (m0 : c0 ≤ 9223372036854775807) (g0 : Pl p0 c0) (h1 : LSpan.Row w p1 n1 l1) (f1 : n1 ≤ c1) (m1 : c1 ≤ 9223372036854775807) (g1 : Pl p1 c1) (at_ : Int) :
    Calls Try.prog 4 #[.slice p0 n0 c0, .slice p1 n1 c1, .int .i64 at_] w fun e w' => e = .returned (.bool true) ∧ Ext w w' := by
  obtain ⟨i0, hi0, hzi0, hzi1, hzi2⟩ := info_parts info_span
  have HSx : Hid (LSpan.Sl w (.slice p0 n0 c0) l0) := Lib.hid ⟨p0, n0, c0, rfl, h0, f0, m0, g0⟩
  have HSy : Hid (LSpan.Sl w (.slice p1 n1 c1) l1) := Lib.hid ⟨p1, n1, c1, rfl, h1, f1, m1, g1⟩
  have HX : Hid (Ext w w) := Lib.hid (Ext.refl _)
  clear h0 g0 h1 g1
  go_enter Try.func4, Try.ntmps4
  go_wp2_with fail
  refine (head_any _).mono ?_
  rintro e W1 ⟨rfl, hxn⟩
  have hxx : Ext w W1 := Ext.trans (by (unfold Ext; repeat (first | exact Below.refl _ _ | assumption | refine Below.drew ?_ | refine below_drewN ?_ _ | refine Below.alloc ?_ (by first | exact Nat.le_refl _ | (simp; done) | (simp; omega) | omega) _ | refine Below.setCell ?_ (by first | exact Nat.le_refl _ | (simp; done) | (simp; omega) | omega) _))) hxn
  have HSx := Lib.hid (HSx.out.ext hxx)
  have HSy := Lib.hid (HSy.out.ext hxx)
  have HX := Lib.hid (Ext.trans HX.out hxx)
  clear hxn hxx
  go_wp2_with fail
  refine (few_v _ l0 _ (HSx.out.ext (by (unfold Ext; repeat (first | exact Below.refl _ _ | assumption | refine Below.drew ?_ | refine below_drewN ?_ _ | refine Below.alloc ?_ (by first | exact Nat.le_refl _ | (simp; done) | (simp; omega) | omega) _ | refine Below.setCell ?_ (by first | exact Nat.le_refl _ | (simp; done) | (simp; omega) | omega) _))))).mono ?_
  rintro e W2 ⟨⟨va, rfl, hown⟩, hxn⟩
  have hxx : Ext W1 W2 := Ext.trans (by (unfold Ext; repeat (first | exact Below.refl _ _ | assumption | refine Below.drew ?_ | refine below_drewN ?_ _ | refine Below.alloc ?_ (by first | exact Nat.le_refl _ | (simp; done) | (simp; omega) | omega) _ | refine Below.setCell ?_ (by first | exact Nat.le_refl _ | (simp; done) | (simp; omega) | omega) _))) hxn
  obtain ⟨La, hL⟩ : ∃ L, l0.take 40 = L := ⟨_, rfl⟩
  rw [hL] at hown
  have HSx := Lib.hid (HSx.out.ext hxx)
  have HSy := Lib.hid (HSy.out.ext hxx)
  have HX := Lib.hid (Ext.trans HX.out hxx)
  clear hxn hxx
  have HLa : Hid (La.length ≤ 40) := Lib.hid (by rw [← hL]; simp; omega)
  have HSa := Lib.hid hown.sl
  clear hown hL
  go_wp2_with fail
  refine (few_v _ l1 _ (HSy.out.ext (by (unfold Ext; repeat (first | exact Below.refl _ _ | assumption | refine Below.drew ?_ | refine below_drewN ?_ _ | refine Below.alloc ?_ (by first | exact Nat.le_refl _ | (simp; done) | (simp; omega) | omega) _ | refine Below.setCell ?_ (by first | exact Nat.le_refl _ | (simp; done) | (simp; omega) | omega) _))))).mono ?_
  rintro e W3 ⟨⟨vb, rfl, hown⟩, hxn⟩
  have hxx : Ext W2 W3 := Ext.trans (by (unfold Ext; repeat (first | exact Below.refl _ _ | assumption | refine Below.drew ?_ | refine below_drewN ?_ _ | refine Below.alloc ?_ (by first | exact Nat.le_refl _ | (simp; done) | (simp; omega) | omega) _ | refine Below.setCell ?_ (by first | exact Nat.le_refl _ | (simp; done) | (simp; omega) | omega) _))) hxn
  obtain ⟨Lb, hL⟩ : ∃ L, l1.take 40 = L := ⟨_, rfl⟩
  rw [hL] at hown
  have HSy := Lib.hid (HSy.out.ext hxx)
  have HSa := Lib.hid (HSa.out.ext hxx)
  have HX := Lib.hid (Ext.trans HX.out hxx)
  clear hxn hxx
  have HLb : Hid (Lb.length ≤ 40) := Lib.hid (by rw [← hL]; simp; omega)
  have HSb := Lib.hid hown.sl
  clear hown hL
  obtain ⟨pa, na, ca, hva, hra, hnca, hca, hpla⟩ := HSa.out
  subst hva
  have HRa := Lib.hid hra
  have HPa := Lib.hid hpla
  have HNa : Hid (La.length = na) := Lib.hid hra.1
  have hna : na ≤ 40 := by have h1 := HLa.out; have h2 := hra.1; omega
  clear hra hpla
  obtain ⟨pb, nb, cb, hvb, hrb, hncb, hcb, hplb⟩ := HSb.out
  subst hvb
  have HRb := Lib.hid hrb
  have HPb := Lib.hid hplb
  have hnb : nb ≤ 40 := by have h1 := HLb.out; have h2 := hrb.1; omega
  clear hrb hplb
  have HO1 : Hid (LSpan.Own (W3.alloc (.cells #[] 33)) W3.heap.size 33 (.slice (some ⟨W3.heap.size, 0, none⟩) 0 0) []) := Lib.hid (Lay.Own.made (E := LSpan) _ #[] 0 _ _ (Nat.le_refl _) (by decide) rfl)
  go_wp2_with (first | (at_builtin; refine Lay.wpList_append (E := LSpan) rfl (.tmp 21) (.tmp 22) 22 rfl W3.heap.size 33 i0 (.agg #[.int .i64 0, .int .i64 0]) 16 Try.underlying22 hi0 hzi0 hzi1 hzi2 rfl _ ([]) rfl (HO1.out) (pa) na ca (La) rfl HPa.out hnca (plain_span.row (HRa.out.ext (Ext.alloc _ _))) (by unfold maxLen; simp; omega) (by simp; omega) (by simp) ?_; intro v1 wa hown1 hg1; have XA := HO1.out.below (w0 := W3) (Ext.alloc _ _) (Nat.le_refl _) hg1; rw [List.nil_append] at hown1; have HO2 := Lib.hid hown1; clear hown1 hg1) | (at_builtin; refine Lay.wpList_append (E := LSpan) rfl (.tmp 24) (.tmp 25) 22 rfl W3.heap.size 33 i0 (.agg #[.int .i64 0, .int .i64 0]) 16 Try.underlying22 hi0 hzi0 hzi1 hzi2 rfl _ (La) rfl (HO2.out) (pb) nb cb (Lb) rfl HPb.out hncb (plain_span.row (HRb.out.ext XA)) (by have h1 := HLa.out; unfold maxLen; omega) (by have h1 := HLa.out; omega) XA.size ?_; intro v2 wb hown2 hg2; have XB := HO2.out.below XA (Nat.le_refl _) hg2; have HO3 := Lib.hid hown2; clear hown2 hg2))
  have hxx : Ext W3 wb := XB
  have hxn : True := trivial
  have HSa := Lib.hid (HSa.out.ext hxx)
  have HSb := Lib.hid (HSb.out.ext hxx)
  have HX := Lib.hid (Ext.trans HX.out hxx)
  clear hxn hxx
  have HSall := Lib.hid HO3.out.sl
  have HLall : Hid ((La ++ Lb).length ≤ 80) := Lib.hid (by have h1 := HLa.out; have h2 := HLb.out; rw [List.length_append]; omega)
  clear XA XB HO1 HO2 HO3 HRa HRb
  go_wp2_with fail
  refine (near_v _ (La ++ Lb) at_ _ (HSall.out.ext (by (unfold Ext; repeat (first | exact Below.refl _ _ | assumption | refine Below.drew ?_ | refine below_drewN ?_ _ | refine Below.alloc ?_ (by first | exact Nat.le_refl _ | (simp; done) | (simp; omega) | omega) _ | refine Below.setCell ?_ (by first | exact Nat.le_refl _ | (simp; done) | (simp; omega) | omega) _)))) (by have h0 := HLall.out; omega)).mono ?_
  rintro e W4 ⟨⟨r1, rfl⟩, hxn⟩
  have hxx : Ext wb W4 := Ext.trans (by (unfold Ext; repeat (first | exact Below.refl _ _ | assumption | refine Below.drew ?_ | refine below_drewN ?_ _ | refine Below.alloc ?_ (by first | exact Nat.le_refl _ | (simp; done) | (simp; omega) | omega) _ | refine Below.setCell ?_ (by first | exact Nat.le_refl _ | (simp; done) | (simp; omega) | omega) _))) hxn
  have HSa := Lib.hid (HSa.out.ext hxx)
  have HSb := Lib.hid (HSb.out.ext hxx)
  have HSall := Lib.hid (HSall.out.ext hxx)
  have HX := Lib.hid (Ext.trans HX.out hxx)
  clear hxn hxx
  go_wp2_with fail
  refine (near_v _ La _ _ (HSa.out.ext (by (unfold Ext; repeat (first | exact Below.refl _ _ | assumption | refine Below.drew ?_ | refine below_drewN ?_ _ | refine Below.alloc ?_ (by first | exact Nat.le_refl _ | (simp; done) | (simp; omega) | omega) _ | refine Below.setCell ?_ (by first | exact Nat.le_refl _ | (simp; done) | (simp; omega) | omega) _)))) (by have h0 := HLa.out; omega)).mono ?_
  rintro e W5 ⟨⟨r2, rfl⟩, hxn⟩
  have hxx : Ext W4 W5 := Ext.trans (by (unfold Ext; repeat (first | exact Below.refl _ _ | assumption | refine Below.drew ?_ | refine below_drewN ?_ _ | refine Below.alloc ?_ (by first | exact Nat.le_refl _ | (simp; done) | (simp; omega) | omega) _ | refine Below.setCell ?_ (by first | exact Nat.le_refl _ | (simp; done) | (simp; omega) | omega) _))) hxn
  have HSa := Lib.hid (HSa.out.ext hxx)
  have HSb := Lib.hid (HSb.out.ext hxx)
  have HSall := Lib.hid (HSall.out.ext hxx)
  have HX := Lib.hid (Ext.trans HX.out hxx)
  clear hxn hxx
  have HCL : Hid (∀ W, Ext (W5.alloc (.cells #[.int .i64 at_, .int .i64 r1, .int .i64 r2] 3)) W → ∀ j : Nat, j < 3 → ∃ z : Int, W.cell? ⟨W5.heap.size, j, none⟩ = some (.int .i64 z)) := Lib.hid (fun W hW j hj => by
    have h1 : ∀ i v, (#[.int .i64 at_, .int .i64 r1, .int .i64 r2] : Array Value)[i]? = some v → W.cell? ⟨W5.heap.size, i, none⟩ = some v := fun i v hv => hW.cell ((cell_of_row _ _ i _ _ _ (heap_alloc_new W5 _)).trans hv)
    match j, hj with
    | 0, _ => exact ⟨_, h1 0 _ rfl⟩
    | 1, _ => exact ⟨_, h1 1 _ rfl⟩
    | 2, _ => exact ⟨_, h1 2 _ rfl⟩)
  go_wp2
  go_loopw [12] (fun i wr => PlR (W5.alloc (.cells #[.int .i64 at_, .int .i64 r1, .int .i64 r2] 3)) i wr) (fun i _ => 3 - (intOf i).toNat)
  case atStart => exact ⟨0, rfl, by omega, Ext.refl _⟩
  case round =>
    obtain ⟨j, rfl, hj, hxr⟩ := hrel
    by_cases hlt : j < 3
    · obtain ⟨z, hz⟩ := HCL.out wr hxr j hlt
      have hlt1 : (j : Int) < 3 := by omega
      have hlt0 : (0 : Int) ≤ (j : Int) := by omega
      have hxx : Ext W5 wr := Ext.trans (Ext.alloc _ _) hxr
      have hxn : True := trivial
      have HSa := Lib.hid (HSa.out.ext hxx)
      have HSb := Lib.hid (HSb.out.ext hxx)
      have HSall := Lib.hid (HSall.out.ext hxx)
      have HX := Lib.hid (Ext.trans HX.out hxx)
      clear hxn hxx
      obtain ⟨qa, hqa⟩ : ∃ qa, hasB La z = qa := ⟨_, rfl⟩
      obtain ⟨qb, hqb⟩ : ∃ qb, hasB Lb z = qb := ⟨_, rfl⟩
      have HQA := Lib.hid hqa
      have HQB := Lib.hid hqb
      clear hqa hqb
      have HXS : Hid (PlX (W5.alloc (.cells #[.int .i64 at_, .int .i64 r1, .int .i64 r2] 3)) wr) := Lib.hid ⟨hxr⟩
      clear hxr
      go_wp2_with fail
      refine (has_v _ La z _ (HSa.out.ext (by (unfold Ext; repeat (first | exact Below.refl _ _ | assumption | refine Below.drew ?_ | refine below_drewN ?_ _ | refine Below.alloc ?_ (by first | exact Nat.le_refl _ | (simp; done) | (simp; omega) | omega) _ | refine Below.setCell ?_ (by first | exact Nat.le_refl _ | (simp; done) | (simp; omega) | omega) _))))).mono ?_
      rintro e W61 ⟨rfl, hxn⟩
      have hxx : Ext wr W61 := Ext.trans (by (unfold Ext; repeat (first | exact Below.refl _ _ | assumption | refine Below.drew ?_ | refine below_drewN ?_ _ | refine Below.alloc ?_ (by first | exact Nat.le_refl _ | (simp; done) | (simp; omega) | omega) _ | refine Below.setCell ?_ (by first | exact Nat.le_refl _ | (simp; done) | (simp; omega) | omega) _))) hxn
      rw [HQA.out]
      have HSa := Lib.hid (HSa.out.ext hxx)
      have HSb := Lib.hid (HSb.out.ext hxx)
      have HSall := Lib.hid (HSall.out.ext hxx)
      have HX := Lib.hid (Ext.trans HX.out hxx)
      have HXS := Lib.hid (HXS.out.next hxx)
      clear hxn hxx
      go_wp2_with fail
      refine (has_v _ Lb z _ (HSb.out.ext (by (unfold Ext; repeat (first | exact Below.refl _ _ | assumption | refine Below.drew ?_ | refine below_drewN ?_ _ | refine Below.alloc ?_ (by first | exact Nat.le_refl _ | (simp; done) | (simp; omega) | omega) _ | refine Below.setCell ?_ (by first | exact Nat.le_refl _ | (simp; done) | (simp; omega) | omega) _))))).mono ?_
      rintro e W62 ⟨rfl, hxn⟩
      have hxx : Ext W61 W62 := Ext.trans (by (unfold Ext; repeat (first | exact Below.refl _ _ | assumption | refine Below.drew ?_ | refine below_drewN ?_ _ | refine Below.alloc ?_ (by first | exact Nat.le_refl _ | (simp; done) | (simp; omega) | omega) _ | refine Below.setCell ?_ (by first | exact Nat.le_refl _ | (simp; done) | (simp; omega) | omega) _))) hxn
      rw [HQB.out]
      have HSa := Lib.hid (HSa.out.ext hxx)
      have HSb := Lib.hid (HSb.out.ext hxx)
      have HSall := Lib.hid (HSall.out.ext hxx)
      have HX := Lib.hid (Ext.trans HX.out hxx)
      have HXS := Lib.hid (HXS.out.next hxx)
      clear hxn hxx
      cases qa
      · cases qb
        · go_wp2_with fail
          refine (norm_v _ La _ (HSa.out.ext (by (unfold Ext; repeat (first | exact Below.refl _ _ | assumption | refine Below.drew ?_ | refine below_drewN ?_ _ | refine Below.alloc ?_ (by first | exact Nat.le_refl _ | (simp; done) | (simp; omega) | omega) _ | refine Below.setCell ?_ (by first | exact Nat.le_refl _ | (simp; done) | (simp; omega) | omega) _)))) (by have h0 := HLa.out; omega)).mono ?_
          rintro e W63 ⟨⟨v1, rfl, hown⟩, hi, hxn⟩
          have hxx : Ext W62 W63 := Ext.trans (by (unfold Ext; repeat (first | exact Below.refl _ _ | assumption | refine Below.drew ?_ | refine below_drewN ?_ _ | refine Below.alloc ?_ (by first | exact Nat.le_refl _ | (simp; done) | (simp; omega) | omega) _ | refine Below.setCell ?_ (by first | exact Nat.le_refl _ | (simp; done) | (simp; omega) | omega) _))) hxn
          obtain ⟨L1, hL⟩ : ∃ L, ofL fOr La [] = L := ⟨_, rfl⟩
          rw [hL] at hown hi
          have HSa := Lib.hid (HSa.out.ext hxx)
          have HSb := Lib.hid (HSb.out.ext hxx)
          have HSall := Lib.hid (HSall.out.ext hxx)
          have HX := Lib.hid (Ext.trans HX.out hxx)
          have HXS := Lib.hid (HXS.out.next hxx)
          clear hxn hxx
          have HS1 := Lib.hid hown.sl
          have HI1 := hi
          have HL1 : Hid (L1.length ≤ 81) := Lib.hid (by have h := hi.out.len; have h1 := HLa.out; simp only [List.length_nil, Nat.add_zero] at h; omega)
          clear hown hi hL
          go_wp2_with fail
          refine (has_v _ L1 z _ (HS1.out.ext (by (unfold Ext; repeat (first | exact Below.refl _ _ | assumption | refine Below.drew ?_ | refine below_drewN ?_ _ | refine Below.alloc ?_ (by first | exact Nat.le_refl _ | (simp; done) | (simp; omega) | omega) _ | refine Below.setCell ?_ (by first | exact Nat.le_refl _ | (simp; done) | (simp; omega) | omega) _))))).mono ?_
          rintro e W64 ⟨rfl, hxn⟩
          have hxx : Ext W63 W64 := Ext.trans (by (unfold Ext; repeat (first | exact Below.refl _ _ | assumption | refine Below.drew ?_ | refine below_drewN ?_ _ | refine Below.alloc ?_ (by first | exact Nat.le_refl _ | (simp; done) | (simp; omega) | omega) _ | refine Below.setCell ?_ (by first | exact Nat.le_refl _ | (simp; done) | (simp; omega) | omega) _))) hxn
          rw [show hasB L1 z = false from by rw [HI1.out.set, hasB_nil, HQA.out]; rfl]
          have HSa := Lib.hid (HSa.out.ext hxx)
          have HSb := Lib.hid (HSb.out.ext hxx)
          have HSall := Lib.hid (HSall.out.ext hxx)
          have HS1 := Lib.hid (HS1.out.ext hxx)
          have HX := Lib.hid (Ext.trans HX.out hxx)
          have HXS := Lib.hid (HXS.out.next hxx)
          clear hxn hxx
          go_wp2_with fail
          refine (add_v _ _ La Lb _ (HSa.out.ext (by (unfold Ext; repeat (first | exact Below.refl _ _ | assumption | refine Below.drew ?_ | refine below_drewN ?_ _ | refine Below.alloc ?_ (by first | exact Nat.le_refl _ | (simp; done) | (simp; omega) | omega) _ | refine Below.setCell ?_ (by first | exact Nat.le_refl _ | (simp; done) | (simp; omega) | omega) _)))) (HSb.out.ext (by (unfold Ext; repeat (first | exact Below.refl _ _ | assumption | refine Below.drew ?_ | refine below_drewN ?_ _ | refine Below.alloc ?_ (by first | exact Nat.le_refl _ | (simp; done) | (simp; omega) | omega) _ | refine Below.setCell ?_ (by first | exact Nat.le_refl _ | (simp; done) | (simp; omega) | omega) _)))) (by have h0 := HLa.out; have h1 := HLb.out; omega)).mono ?_
          rintro e W65 ⟨⟨v2, rfl, hown⟩, hi, hxn⟩
          have hxx : Ext W64 W65 := Ext.trans (by (unfold Ext; repeat (first | exact Below.refl _ _ | assumption | refine Below.drew ?_ | refine below_drewN ?_ _ | refine Below.alloc ?_ (by first | exact Nat.le_refl _ | (simp; done) | (simp; omega) | omega) _ | refine Below.setCell ?_ (by first | exact Nat.le_refl _ | (simp; done) | (simp; omega) | omega) _))) hxn
          obtain ⟨L2, hL⟩ : ∃ L, ofL fOr La Lb = L := ⟨_, rfl⟩
          rw [hL] at hown hi
          have HSa := Lib.hid (HSa.out.ext hxx)
          have HSb := Lib.hid (HSb.out.ext hxx)
          have HSall := Lib.hid (HSall.out.ext hxx)
          have HS1 := Lib.hid (HS1.out.ext hxx)
          have HX := Lib.hid (Ext.trans HX.out hxx)
          have HXS := Lib.hid (HXS.out.next hxx)
          clear hxn hxx
          have HS2 := Lib.hid hown.sl
          have HI2 := hi
          have HL2 : Hid (L2.length ≤ 161) := Lib.hid (by have h := hi.out.len; have h1 := HLa.out; have h2 := HLb.out; omega)
          clear hown hi hL
          go_wp2_with fail
          refine (has_v _ L2 z _ (HS2.out.ext (by (unfold Ext; repeat (first | exact Below.refl _ _ | assumption | refine Below.drew ?_ | refine below_drewN ?_ _ | refine Below.alloc ?_ (by first | exact Nat.le_refl _ | (simp; done) | (simp; omega) | omega) _ | refine Below.setCell ?_ (by first | exact Nat.le_refl _ | (simp; done) | (simp; omega) | omega) _))))).mono ?_
          rintro e W66 ⟨rfl, hxn⟩
          have hxx : Ext W65 W66 := Ext.trans (by (unfold Ext; repeat (first | exact Below.refl _ _ | assumption | refine Below.drew ?_ | refine below_drewN ?_ _ | refine Below.alloc ?_ (by first | exact Nat.le_refl _ | (simp; done) | (simp; omega) | omega) _ | refine Below.setCell ?_ (by first | exact Nat.le_refl _ | (simp; done) | (simp; omega) | omega) _))) hxn
          rw [show hasB L2 z = false from by rw [HI2.out.set, HQA.out, HQB.out]; rfl]
          have HSa := Lib.hid (HSa.out.ext hxx)
          have HSb := Lib.hid (HSb.out.ext hxx)
          have HSall := Lib.hid (HSall.out.ext hxx)
          have HS1 := Lib.hid (HS1.out.ext hxx)
          have HS2 := Lib.hid (HS2.out.ext hxx)
          have HX := Lib.hid (Ext.trans HX.out hxx)
          have HXS := Lib.hid (HXS.out.next hxx)
          clear hxn hxx
          go_wp2_with fail
          refine (cut_v _ _ La Lb _ (HSa.out.ext (by (unfold Ext; repeat (first | exact Below.refl _ _ | assumption | refine Below.drew ?_ | refine below_drewN ?_ _ | refine Below.alloc ?_ (by first | exact Nat.le_refl _ | (simp; done) | (simp; omega) | omega) _ | refine Below.setCell ?_ (by first | exact Nat.le_refl _ | (simp; done) | (simp; omega) | omega) _)))) (HSb.out.ext (by (unfold Ext; repeat (first | exact Below.refl _ _ | assumption | refine Below.drew ?_ | refine below_drewN ?_ _ | refine Below.alloc ?_ (by first | exact Nat.le_refl _ | (simp; done) | (simp; omega) | omega) _ | refine Below.setCell ?_ (by first | exact Nat.le_refl _ | (simp; done) | (simp; omega) | omega) _)))) (by have h0 := HLa.out; have h1 := HLb.out; omega)).mono ?_
          rintro e W67 ⟨⟨v3, rfl, hown⟩, hi, hxn⟩
          have hxx : Ext W66 W67 := Ext.trans (by (unfold Ext; repeat (first | exact Below.refl _ _ | assumption | refine Below.drew ?_ | refine below_drewN ?_ _ | refine Below.alloc ?_ (by first | exact Nat.le_refl _ | (simp; done) | (simp; omega) | omega) _ | refine Below.setCell ?_ (by first | exact Nat.le_refl _ | (simp; done) | (simp; omega) | omega) _))) hxn
          obtain ⟨L3, hL⟩ : ∃ L, ofL fCut La Lb = L := ⟨_, rfl⟩
          rw [hL] at hown hi
          have HSa := Lib.hid (HSa.out.ext hxx)
          have HSb := Lib.hid (HSb.out.ext hxx)
          have HSall := Lib.hid (HSall.out.ext hxx)
          have HS1 := Lib.hid (HS1.out.ext hxx)
          have HS2 := Lib.hid (HS2.out.ext hxx)
          have HX := Lib.hid (Ext.trans HX.out hxx)
          have HXS := Lib.hid (HXS.out.next hxx)
          clear hxn hxx
          have HS3 := Lib.hid hown.sl
          have HI3 := hi
          have HL3 : Hid (L3.length ≤ 161) := Lib.hid (by have h := hi.out.len; have h1 := HLa.out; have h2 := HLb.out; omega)
          clear hown hi hL
          go_wp2_with fail
          refine (has_v _ L3 z _ (HS3.out.ext (by (unfold Ext; repeat (first | exact Below.refl _ _ | assumption | refine Below.drew ?_ | refine below_drewN ?_ _ | refine Below.alloc ?_ (by first | exact Nat.le_refl _ | (simp; done) | (simp; omega) | omega) _ | refine Below.setCell ?_ (by first | exact Nat.le_refl _ | (simp; done) | (simp; omega) | omega) _))))).mono ?_
          rintro e W68 ⟨rfl, hxn⟩
          have hxx : Ext W67 W68 := Ext.trans (by (unfold Ext; repeat (first | exact Below.refl _ _ | assumption | refine Below.drew ?_ | refine below_drewN ?_ _ | refine Below.alloc ?_ (by first | exact Nat.le_refl _ | (simp; done) | (simp; omega) | omega) _ | refine Below.setCell ?_ (by first | exact Nat.le_refl _ | (simp; done) | (simp; omega) | omega) _))) hxn
          rw [show hasB L3 z = false from by rw [HI3.out.set, HQA.out, HQB.out]; rfl]
          have HSa := Lib.hid (HSa.out.ext hxx)
          have HSb := Lib.hid (HSb.out.ext hxx)
          have HSall := Lib.hid (HSall.out.ext hxx)
          have HS1 := Lib.hid (HS1.out.ext hxx)
          have HS2 := Lib.hid (HS2.out.ext hxx)
          have HS3 := Lib.hid (HS3.out.ext hxx)
          have HX := Lib.hid (Ext.trans HX.out hxx)
          have HXS := Lib.hid (HXS.out.next hxx)
          clear hxn hxx
          go_wp2_with fail
          refine (meet_v _ _ La Lb _ (HSa.out.ext (by (unfold Ext; repeat (first | exact Below.refl _ _ | assumption | refine Below.drew ?_ | refine below_drewN ?_ _ | refine Below.alloc ?_ (by first | exact Nat.le_refl _ | (simp; done) | (simp; omega) | omega) _ | refine Below.setCell ?_ (by first | exact Nat.le_refl _ | (simp; done) | (simp; omega) | omega) _)))) (HSb.out.ext (by (unfold Ext; repeat (first | exact Below.refl _ _ | assumption | refine Below.drew ?_ | refine below_drewN ?_ _ | refine Below.alloc ?_ (by first | exact Nat.le_refl _ | (simp; done) | (simp; omega) | omega) _ | refine Below.setCell ?_ (by first | exact Nat.le_refl _ | (simp; done) | (simp; omega) | omega) _)))) (by have h0 := HLa.out; have h1 := HLb.out; omega)).mono ?_
          rintro e W69 ⟨⟨v4, rfl, hown⟩, hi, hxn⟩
          have hxx : Ext W68 W69 := Ext.trans (by (unfold Ext; repeat (first | exact Below.refl _ _ | assumption | refine Below.drew ?_ | refine below_drewN ?_ _ | refine Below.alloc ?_ (by first | exact Nat.le_refl _ | (simp; done) | (simp; omega) | omega) _ | refine Below.setCell ?_ (by first | exact Nat.le_refl _ | (simp; done) | (simp; omega) | omega) _))) hxn
          obtain ⟨L4, hL⟩ : ∃ L, ofL fAnd La Lb = L := ⟨_, rfl⟩
          rw [hL] at hown hi
          have HSa := Lib.hid (HSa.out.ext hxx)
          have HSb := Lib.hid (HSb.out.ext hxx)
          have HSall := Lib.hid (HSall.out.ext hxx)
          have HS1 := Lib.hid (HS1.out.ext hxx)
          have HS2 := Lib.hid (HS2.out.ext hxx)
          have HS3 := Lib.hid (HS3.out.ext hxx)
          have HX := Lib.hid (Ext.trans HX.out hxx)
          have HXS := Lib.hid (HXS.out.next hxx)
          clear hxn hxx
          have HS4 := Lib.hid hown.sl
          have HI4 := hi
          have HL4 : Hid (L4.length ≤ 161) := Lib.hid (by have h := hi.out.len; have h1 := HLa.out; have h2 := HLb.out; omega)
          clear hown hi hL
          go_wp2_with fail
          refine (has_v _ L4 z _ (HS4.out.ext (by (unfold Ext; repeat (first | exact Below.refl _ _ | assumption | refine Below.drew ?_ | refine below_drewN ?_ _ | refine Below.alloc ?_ (by first | exact Nat.le_refl _ | (simp; done) | (simp; omega) | omega) _ | refine Below.setCell ?_ (by first | exact Nat.le_refl _ | (simp; done) | (simp; omega) | omega) _))))).mono ?_
          rintro e W70 ⟨rfl, hxn⟩
          have hxx : Ext W69 W70 := Ext.trans (by (unfold Ext; repeat (first | exact Below.refl _ _ | assumption | refine Below.drew ?_ | refine below_drewN ?_ _ | refine Below.alloc ?_ (by first | exact Nat.le_refl _ | (simp; done) | (simp; omega) | omega) _ | refine Below.setCell ?_ (by first | exact Nat.le_refl _ | (simp; done) | (simp; omega) | omega) _))) hxn
          rw [show hasB L4 z = false from by rw [HI4.out.set, HQA.out, HQB.out]; rfl]
          have HSa := Lib.hid (HSa.out.ext hxx)
          have HSb := Lib.hid (HSb.out.ext hxx)
          have HSall := Lib.hid (HSall.out.ext hxx)
          have HS1 := Lib.hid (HS1.out.ext hxx)
          have HS2 := Lib.hid (HS2.out.ext hxx)
          have HS3 := Lib.hid (HS3.out.ext hxx)
          have HS4 := Lib.hid (HS4.out.ext hxx)
          have HX := Lib.hid (Ext.trans HX.out hxx)
          have HXS := Lib.hid (HXS.out.next hxx)
          clear hxn hxx
          go_wp2
          go_roundw
          case rel => exact ⟨j + 1, by go_num, by omega, HXS.out.ext (by (unfold Ext; repeat (first | exact Below.refl _ _ | assumption | refine Below.drew ?_ | refine below_drewN ?_ _ | refine Below.alloc ?_ (by first | exact Nat.le_refl _ | (simp; done) | (simp; omega) | omega) _ | refine Below.setCell ?_ (by first | exact Nat.le_refl _ | (simp; done) | (simp; omega) | omega) _)))⟩
          case measure => simp [intOf]; omega
        · go_wp2_with fail
          refine (norm_v _ La _ (HSa.out.ext (by (unfold Ext; repeat (first | exact Below.refl _ _ | assumption | refine Below.drew ?_ | refine below_drewN ?_ _ | refine Below.alloc ?_ (by first | exact Nat.le_refl _ | (simp; done) | (simp; omega) | omega) _ | refine Below.setCell ?_ (by first | exact Nat.le_refl _ | (simp; done) | (simp; omega) | omega) _)))) (by have h0 := HLa.out; omega)).mono ?_
          rintro e W63 ⟨⟨v1, rfl, hown⟩, hi, hxn⟩
          have hxx : Ext W62 W63 := Ext.trans (by (unfold Ext; repeat (first | exact Below.refl _ _ | assumption | refine Below.drew ?_ | refine below_drewN ?_ _ | refine Below.alloc ?_ (by first | exact Nat.le_refl _ | (simp; done) | (simp; omega) | omega) _ | refine Below.setCell ?_ (by first | exact Nat.le_refl _ | (simp; done) | (simp; omega) | omega) _))) hxn
          obtain ⟨L1, hL⟩ : ∃ L, ofL fOr La [] = L := ⟨_, rfl⟩
          rw [hL] at hown hi
          have HSa := Lib.hid (HSa.out.ext hxx)
          have HSb := Lib.hid (HSb.out.ext hxx)
          have HSall := Lib.hid (HSall.out.ext hxx)
          have HX := Lib.hid (Ext.trans HX.out hxx)
          have HXS := Lib.hid (HXS.out.next hxx)
          clear hxn hxx
          have HS1 := Lib.hid hown.sl
          have HI1 := hi
          have HL1 : Hid (L1.length ≤ 81) := Lib.hid (by have h := hi.out.len; have h1 := HLa.out; simp only [List.length_nil, Nat.add_zero] at h; omega)
          clear hown hi hL
          go_wp2_with fail
          refine (has_v _ L1 z _ (HS1.out.ext (by (unfold Ext; repeat (first | exact Below.refl _ _ | assumption | refine Below.drew ?_ | refine below_drewN ?_ _ | refine Below.alloc ?_ (by first | exact Nat.le_refl _ | (simp; done) | (simp; omega) | omega) _ | refine Below.setCell ?_ (by first | exact Nat.le_refl _ | (simp; done) | (simp; omega) | omega) _))))).mono ?_
          rintro e W64 ⟨rfl, hxn⟩
          have hxx : Ext W63 W64 := Ext.trans (by (unfold Ext; repeat (first | exact Below.refl _ _ | assumption | refine Below.drew ?_ | refine below_drewN ?_ _ | refine Below.alloc ?_ (by first | exact Nat.le_refl _ | (simp; done) | (simp; omega) | omega) _ | refine Below.setCell ?_ (by first | exact Nat.le_refl _ | (simp; done) | (simp; omega) | omega) _))) hxn
          rw [show hasB L1 z = false from by rw [HI1.out.set, hasB_nil, HQA.out]; rfl]
          have HSa := Lib.hid (HSa.out.ext hxx)
          have HSb := Lib.hid (HSb.out.ext hxx)
          have HSall := Lib.hid (HSall.out.ext hxx)
          have HS1 := Lib.hid (HS1.out.ext hxx)
          have HX := Lib.hid (Ext.trans HX.out hxx)
          have HXS := Lib.hid (HXS.out.next hxx)
          clear hxn hxx
          go_wp2_with fail
          refine (add_v _ _ La Lb _ (HSa.out.ext (by (unfold Ext; repeat (first | exact Below.refl _ _ | assumption | refine Below.drew ?_ | refine below_drewN ?_ _ | refine Below.alloc ?_ (by first | exact Nat.le_refl _ | (simp; done) | (simp; omega) | omega) _ | refine Below.setCell ?_ (by first | exact Nat.le_refl _ | (simp; done) | (simp; omega) | omega) _)))) (HSb.out.ext (by (unfold Ext; repeat (first | exact Below.refl _ _ | assumption | refine Below.drew ?_ | refine below_drewN ?_ _ | refine Below.alloc ?_ (by first | exact Nat.le_refl _ | (simp; done) | (simp; omega) | omega) _ | refine Below.setCell ?_ (by first | exact Nat.le_refl _ | (simp; done) | (simp; omega) | omega) _)))) (by have h0 := HLa.out; have h1 := HLb.out; omega)).mono ?_
          rintro e W65 ⟨⟨v2, rfl, hown⟩, hi, hxn⟩
          have hxx : Ext W64 W65 := Ext.trans (by (unfold Ext; repeat (first | exact Below.refl _ _ | assumption | refine Below.drew ?_ | refine below_drewN ?_ _ | refine Below.alloc ?_ (by first | exact Nat.le_refl _ | (simp; done) | (simp; omega) | omega) _ | refine Below.setCell ?_ (by first | exact Nat.le_refl _ | (simp; done) | (simp; omega) | omega) _))) hxn
          obtain ⟨L2, hL⟩ : ∃ L, ofL fOr La Lb = L := ⟨_, rfl⟩
          rw [hL] at hown hi
          have HSa := Lib.hid (HSa.out.ext hxx)
          have HSb := Lib.hid (HSb.out.ext hxx)
          have HSall := Lib.hid (HSall.out.ext hxx)
          have HS1 := Lib.hid (HS1.out.ext hxx)
          have HX := Lib.hid (Ext.trans HX.out hxx)
          have HXS := Lib.hid (HXS.out.next hxx)
          clear hxn hxx
          have HS2 := Lib.hid hown.sl
          have HI2 := hi
          have HL2 : Hid (L2.length ≤ 161) := Lib.hid (by have h := hi.out.len; have h1 := HLa.out; have h2 := HLb.out; omega)
          clear hown hi hL
          go_wp2_with fail
          refine (has_v _ L2 z _ (HS2.out.ext (by (unfold Ext; repeat (first | exact Below.refl _ _ | assumption | refine Below.drew ?_ | refine below_drewN ?_ _ | refine Below.alloc ?_ (by first | exact Nat.le_refl _ | (simp; done) | (simp; omega) | omega) _ | refine Below.setCell ?_ (by first | exact Nat.le_refl _ | (simp; done) | (simp; omega) | omega) _))))).mono ?_
          rintro e W66 ⟨rfl, hxn⟩
          have hxx : Ext W65 W66 := Ext.trans (by (unfold Ext; repeat (first | exact Below.refl _ _ | assumption | refine Below.drew ?_ | refine below_drewN ?_ _ | refine Below.alloc ?_ (by first | exact Nat.le_refl _ | (simp; done) | (simp; omega) | omega) _ | refine Below.setCell ?_ (by first | exact Nat.le_refl _ | (simp; done) | (simp; omega) | omega) _))) hxn
          rw [show hasB L2 z = true from by rw [HI2.out.set, HQA.out, HQB.out]; rfl]
          have HSa := Lib.hid (HSa.out.ext hxx)
          have HSb := Lib.hid (HSb.out.ext hxx)
          have HSall := Lib.hid (HSall.out.ext hxx)
          have HS1 := Lib.hid (HS1.out.ext hxx)
          have HS2 := Lib.hid (HS2.out.ext hxx)
          have HX := Lib.hid (Ext.trans HX.out hxx)
          have HXS := Lib.hid (HXS.out.next hxx)
          clear hxn hxx
          go_wp2_with fail
          refine (cut_v _ _ La Lb _ (HSa.out.ext (by (unfold Ext; repeat (first | exact Below.refl _ _ | assumption | refine Below.drew ?_ | refine below_drewN ?_ _ | refine Below.alloc ?_ (by first | exact Nat.le_refl _ | (simp; done) | (simp; omega) | omega) _ | refine Below.setCell ?_ (by first | exact Nat.le_refl _ | (simp; done) | (simp; omega) | omega) _)))) (HSb.out.ext (by (unfold Ext; repeat (first | exact Below.refl _ _ | assumption | refine Below.drew ?_ | refine below_drewN ?_ _ | refine Below.alloc ?_ (by first | exact Nat.le_refl _ | (simp; done) | (simp; omega) | omega) _ | refine Below.setCell ?_ (by first | exact Nat.le_refl _ | (simp; done) | (simp; omega) | omega) _)))) (by have h0 := HLa.out; have h1 := HLb.out; omega)).mono ?_
          rintro e W67 ⟨⟨v3, rfl, hown⟩, hi, hxn⟩
          have hxx : Ext W66 W67 := Ext.trans (by (unfold Ext; repeat (first | exact Below.refl _ _ | assumption | refine Below.drew ?_ | refine below_drewN ?_ _ | refine Below.alloc ?_ (by first | exact Nat.le_refl _ | (simp; done) | (simp; omega) | omega) _ | refine Below.setCell ?_ (by first | exact Nat.le_refl _ | (simp; done) | (simp; omega) | omega) _))) hxn
          obtain ⟨L3, hL⟩ : ∃ L, ofL fCut La Lb = L := ⟨_, rfl⟩
          rw [hL] at hown hi
          have HSa := Lib.hid (HSa.out.ext hxx)
          have HSb := Lib.hid (HSb.out.ext hxx)
          have HSall := Lib.hid (HSall.out.ext hxx)
          have HS1 := Lib.hid (HS1.out.ext hxx)
          have HS2 := Lib.hid (HS2.out.ext hxx)
          have HX := Lib.hid (Ext.trans HX.out hxx)
          have HXS := Lib.hid (HXS.out.next hxx)
          clear hxn hxx
          have HS3 := Lib.hid hown.sl
          have HI3 := hi
          have HL3 : Hid (L3.length ≤ 161) := Lib.hid (by have h := hi.out.len; have h1 := HLa.out; have h2 := HLb.out; omega)
          clear hown hi hL
          go_wp2_with fail
          refine (has_v _ L3 z _ (HS3.out.ext (by (unfold Ext; repeat (first | exact Below.refl _ _ | assumption | refine Below.drew ?_ | refine below_drewN ?_ _ | refine Below.alloc ?_ (by first | exact Nat.le_refl _ | (simp; done) | (simp; omega) | omega) _ | refine Below.setCell ?_ (by first | exact Nat.le_refl _ | (simp; done) | (simp; omega) | omega) _))))).mono ?_
          rintro e W68 ⟨rfl, hxn⟩
          have hxx : Ext W67 W68 := Ext.trans (by (unfold Ext; repeat (first | exact Below.refl _ _ | assumption | refine Below.drew ?_ | refine below_drewN ?_ _ | refine Below.alloc ?_ (by first | exact Nat.le_refl _ | (simp; done) | (simp; omega) | omega) _ | refine Below.setCell ?_ (by first | exact Nat.le_refl _ | (simp; done) | (simp; omega) | omega) _))) hxn
          rw [show hasB L3 z = false from by rw [HI3.out.set, HQA.out, HQB.out]; rfl]
          have HSa := Lib.hid (HSa.out.ext hxx)
          have HSb := Lib.hid (HSb.out.ext hxx)
          have HSall := Lib.hid (HSall.out.ext hxx)
          have HS1 := Lib.hid (HS1.out.ext hxx)
          have HS2 := Lib.hid (HS2.out.ext hxx)
          have HS3 := Lib.hid (HS3.out.ext hxx)
          have HX := Lib.hid (Ext.trans HX.out hxx)
          have HXS := Lib.hid (HXS.out.next hxx)
          clear hxn hxx
          go_wp2_with fail
          refine (meet_v _ _ La Lb _ (HSa.out.ext (by (unfold Ext; repeat (first | exact Below.refl _ _ | assumption | refine Below.drew ?_ | refine below_drewN ?_ _ | refine Below.alloc ?_ (by first | exact Nat.le_refl _ | (simp; done) | (simp; omega) | omega) _ | refine Below.setCell ?_ (by first | exact Nat.le_refl _ | (simp; done) | (simp; omega) | omega) _)))) (HSb.out.ext (by (unfold Ext; repeat (first | exact Below.refl _ _ | assumption | refine Below.drew ?_ | refine below_drewN ?_ _ | refine Below.alloc ?_ (by first | exact Nat.le_refl _ | (simp; done) | (simp; omega) | omega) _ | refine Below.setCell ?_ (by first | exact Nat.le_refl _ | (simp; done) | (simp; omega) | omega) _)))) (by have h0 := HLa.out; have h1 := HLb.out; omega)).mono ?_
          rintro e W69 ⟨⟨v4, rfl, hown⟩, hi, hxn⟩
          have hxx : Ext W68 W69 := Ext.trans (by (unfold Ext; repeat (first | exact Below.refl _ _ | assumption | refine Below.drew ?_ | refine below_drewN ?_ _ | refine Below.alloc ?_ (by first | exact Nat.le_refl _ | (simp; done) | (simp; omega) | omega) _ | refine Below.setCell ?_ (by first | exact Nat.le_refl _ | (simp; done) | (simp; omega) | omega) _))) hxn
          obtain ⟨L4, hL⟩ : ∃ L, ofL fAnd La Lb = L := ⟨_, rfl⟩
          rw [hL] at hown hi
          have HSa := Lib.hid (HSa.out.ext hxx)
          have HSb := Lib.hid (HSb.out.ext hxx)
          have HSall := Lib.hid (HSall.out.ext hxx)
          have HS1 := Lib.hid (HS1.out.ext hxx)
          have HS2 := Lib.hid (HS2.out.ext hxx)
          have HS3 := Lib.hid (HS3.out.ext hxx)
          have HX := Lib.hid (Ext.trans HX.out hxx)
          have HXS := Lib.hid (HXS.out.next hxx)
          clear hxn hxx
          have HS4 := Lib.hid hown.sl
          have HI4 := hi
          have HL4 : Hid (L4.length ≤ 161) := Lib.hid (by have h := hi.out.len; have h1 := HLa.out; have h2 := HLb.out; omega)
          clear hown hi hL
          go_wp2_with fail
          refine (has_v _ L4 z _ (HS4.out.ext (by (unfold Ext; repeat (first | exact Below.refl _ _ | assumption | refine Below.drew ?_ | refine below_drewN ?_ _ | refine Below.alloc ?_ (by first | exact Nat.le_refl _ | (simp; done) | (simp; omega) | omega) _ | refine Below.setCell ?_ (by first | exact Nat.le_refl _ | (simp; done) | (simp; omega) | omega) _))))).mono ?_
          rintro e W70 ⟨rfl, hxn⟩
          have hxx : Ext W69 W70 := Ext.trans (by (unfold Ext; repeat (first | exact Below.refl _ _ | assumption | refine Below.drew ?_ | refine below_drewN ?_ _ | refine Below.alloc ?_ (by first | exact Nat.le_refl _ | (simp; done) | (simp; omega) | omega) _ | refine Below.setCell ?_ (by first | exact Nat.le_refl _ | (simp; done) | (simp; omega) | omega) _))) hxn
          rw [show hasB L4 z = false from by rw [HI4.out.set, HQA.out, HQB.out]; rfl]
          have HSa := Lib.hid (HSa.out.ext hxx)
          have HSb := Lib.hid (HSb.out.ext hxx)
          have HSall := Lib.hid (HSall.out.ext hxx)
          have HS1 := Lib.hid (HS1.out.ext hxx)
          have HS2 := Lib.hid (HS2.out.ext hxx)
          have HS3 := Lib.hid (HS3.out.ext hxx)
          have HS4 := Lib.hid (HS4.out.ext hxx)
          have HX := Lib.hid (Ext.trans HX.out hxx)
          have HXS := Lib.hid (HXS.out.next hxx)
          clear hxn hxx
          go_wp2
          go_roundw
          case rel => exact ⟨j + 1, by go_num, by omega, HXS.out.ext (by (unfold Ext; repeat (first | exact Below.refl _ _ | assumption | refine Below.drew ?_ | refine below_drewN ?_ _ | refine Below.alloc ?_ (by first | exact Nat.le_refl _ | (simp; done) | (simp; omega) | omega) _ | refine Below.setCell ?_ (by first | exact Nat.le_refl _ | (simp; done) | (simp; omega) | omega) _)))⟩
          case measure => simp [intOf]; omega
      · cases qb
        · go_wp2_with fail
          refine (norm_v _ La _ (HSa.out.ext (by (unfold Ext; repeat (first | exact Below.refl _ _ | assumption | refine Below.drew ?_ | refine below_drewN ?_ _ | refine Below.alloc ?_ (by first | exact Nat.le_refl _ | (simp; done) | (simp; omega) | omega) _ | refine Below.setCell ?_ (by first | exact Nat.le_refl _ | (simp; done) | (simp; omega) | omega) _)))) (by have h0 := HLa.out; omega)).mono ?_
          rintro e W63 ⟨⟨v1, rfl, hown⟩, hi, hxn⟩
          have hxx : Ext W62 W63 := Ext.trans (by (unfold Ext; repeat (first | exact Below.refl _ _ | assumption | refine Below.drew ?_ | refine below_drewN ?_ _ | refine Below.alloc ?_ (by first | exact Nat.le_refl _ | (simp; done) | (simp; omega) | omega) _ | refine Below.setCell ?_ (by first | exact Nat.le_refl _ | (simp; done) | (simp; omega) | omega) _))) hxn
          obtain ⟨L1, hL⟩ : ∃ L, ofL fOr La [] = L := ⟨_, rfl⟩
          rw [hL] at hown hi
          have HSa := Lib.hid (HSa.out.ext hxx)
          have HSb := Lib.hid (HSb.out.ext hxx)
          have HSall := Lib.hid (HSall.out.ext hxx)
          have HX := Lib.hid (Ext.trans HX.out hxx)
          have HXS := Lib.hid (HXS.out.next hxx)
          clear hxn hxx
          have HS1 := Lib.hid hown.sl
          have HI1 := hi
          have HL1 : Hid (L1.length ≤ 81) := Lib.hid (by have h := hi.out.len; have h1 := HLa.out; simp only [List.length_nil, Nat.add_zero] at h; omega)
          clear hown hi hL
          go_wp2_with fail
          refine (has_v _ L1 z _ (HS1.out.ext (by (unfold Ext; repeat (first | exact Below.refl _ _ | assumption | refine Below.drew ?_ | refine below_drewN ?_ _ | refine Below.alloc ?_ (by first | exact Nat.le_refl _ | (simp; done) | (simp; omega) | omega) _ | refine Below.setCell ?_ (by first | exact Nat.le_refl _ | (simp; done) | (simp; omega) | omega) _))))).mono ?_
          rintro e W64 ⟨rfl, hxn⟩
          have hxx : Ext W63 W64 := Ext.trans (by (unfold Ext; repeat (first | exact Below.refl _ _ | assumption | refine Below.drew ?_ | refine below_drewN ?_ _ | refine Below.alloc ?_ (by first | exact Nat.le_refl _ | (simp; done) | (simp; omega) | omega) _ | refine Below.setCell ?_ (by first | exact Nat.le_refl _ | (simp; done) | (simp; omega) | omega) _))) hxn
          rw [show hasB L1 z = true from by rw [HI1.out.set, hasB_nil, HQA.out]; rfl]
          have HSa := Lib.hid (HSa.out.ext hxx)
          have HSb := Lib.hid (HSb.out.ext hxx)
          have HSall := Lib.hid (HSall.out.ext hxx)
          have HS1 := Lib.hid (HS1.out.ext hxx)
          have HX := Lib.hid (Ext.trans HX.out hxx)
          have HXS := Lib.hid (HXS.out.next hxx)
          clear hxn hxx
          go_wp2_with fail
          refine (add_v _ _ La Lb _ (HSa.out.ext (by (unfold Ext; repeat (first | exact Below.refl _ _ | assumption | refine Below.drew ?_ | refine below_drewN ?_ _ | refine Below.alloc ?_ (by first | exact Nat.le_refl _ | (simp; done) | (simp; omega) | omega) _ | refine Below.setCell ?_ (by first | exact Nat.le_refl _ | (simp; done) | (simp; omega) | omega) _)))) (HSb.out.ext (by (unfold Ext; repeat (first | exact Below.refl _ _ | assumption | refine Below.drew ?_ | refine below_drewN ?_ _ | refine Below.alloc ?_ (by first | exact Nat.le_refl _ | (simp; done) | (simp; omega) | omega) _ | refine Below.setCell ?_ (by first | exact Nat.le_refl _ | (simp; done) | (simp; omega) | omega) _)))) (by have h0 := HLa.out; have h1 := HLb.out; omega)).mono ?_
          rintro e W65 ⟨⟨v2, rfl, hown⟩, hi, hxn⟩
          have hxx : Ext W64 W65 := Ext.trans (by (unfold Ext; repeat (first | exact Below.refl _ _ | assumption | refine Below.drew ?_ | refine below_drewN ?_ _ | refine Below.alloc ?_ (by first | exact Nat.le_refl _ | (simp; done) | (simp; omega) | omega) _ | refine Below.setCell ?_ (by first | exact Nat.le_refl _ | (simp; done) | (simp; omega) | omega) _))) hxn
          obtain ⟨L2, hL⟩ : ∃ L, ofL fOr La Lb = L := ⟨_, rfl⟩
          rw [hL] at hown hi
          have HSa := Lib.hid (HSa.out.ext hxx)
          have HSb := Lib.hid (HSb.out.ext hxx)
          have HSall := Lib.hid (HSall.out.ext hxx)
          have HS1 := Lib.hid (HS1.out.ext hxx)
          have HX := Lib.hid (Ext.trans HX.out hxx)
          have HXS := Lib.hid (HXS.out.next hxx)
          clear hxn hxx
          have HS2 := Lib.hid hown.sl
          have HI2 := hi
          have HL2 : Hid (L2.length ≤ 161) := Lib.hid (by have h := hi.out.len; have h1 := HLa.out; have h2 := HLb.out; omega)
          clear hown hi hL
          go_wp2_with fail
          refine (has_v _ L2 z _ (HS2.out.ext (by (unfold Ext; repeat (first | exact Below.refl _ _ | assumption | refine Below.drew ?_ | refine below_drewN ?_ _ | refine Below.alloc ?_ (by first | exact Nat.le_refl _ | (simp; done) | (simp; omega) | omega) _ | refine Below.setCell ?_ (by first | exact Nat.le_refl _ | (simp; done) | (simp; omega) | omega) _))))).mono ?_
          rintro e W66 ⟨rfl, hxn⟩
          have hxx : Ext W65 W66 := Ext.trans (by (unfold Ext; repeat (first | exact Below.refl _ _ | assumption | refine Below.drew ?_ | refine below_drewN ?_ _ | refine Below.alloc ?_ (by first | exact Nat.le_refl _ | (simp; done) | (simp; omega) | omega) _ | refine Below.setCell ?_ (by first | exact Nat.le_refl _ | (simp; done) | (simp; omega) | omega) _))) hxn
          rw [show hasB L2 z = true from by rw [HI2.out.set, HQA.out, HQB.out]; rfl]
          have HSa := Lib.hid (HSa.out.ext hxx)
          have HSb := Lib.hid (HSb.out.ext hxx)
          have HSall := Lib.hid (HSall.out.ext hxx)
          have HS1 := Lib.hid (HS1.out.ext hxx)
          have HS2 := Lib.hid (HS2.out.ext hxx)
          have HX := Lib.hid (Ext.trans HX.out hxx)
          have HXS := Lib.hid (HXS.out.next hxx)
          clear hxn hxx
          go_wp2_with fail
          refine (cut_v _ _ La Lb _ (HSa.out.ext (by (unfold Ext; repeat (first | exact Below.refl _ _ | assumption | refine Below.drew ?_ | refine below_drewN ?_ _ | refine Below.alloc ?_ (by first | exact Nat.le_refl _ | (simp; done) | (simp; omega) | omega) _ | refine Below.setCell ?_ (by first | exact Nat.le_refl _ | (simp; done) | (simp; omega) | omega) _)))) (HSb.out.ext (by (unfold Ext; repeat (first | exact Below.refl _ _ | assumption | refine Below.drew ?_ | refine below_drewN ?_ _ | refine Below.alloc ?_ (by first | exact Nat.le_refl _ | (simp; done) | (simp; omega) | omega) _ | refine Below.setCell ?_ (by first | exact Nat.le_refl _ | (simp; done) | (simp; omega) | omega) _)))) (by have h0 := HLa.out; have h1 := HLb.out; omega)).mono ?_
          rintro e W67 ⟨⟨v3, rfl, hown⟩, hi, hxn⟩
          have hxx : Ext W66 W67 := Ext.trans (by (unfold Ext; repeat (first | exact Below.refl _ _ | assumption | refine Below.drew ?_ | refine below_drewN ?_ _ | refine Below.alloc ?_ (by first | exact Nat.le_refl _ | (simp; done) | (simp; omega) | omega) _ | refine Below.setCell ?_ (by first | exact Nat.le_refl _ | (simp; done) | (simp; omega) | omega) _))) hxn
          obtain ⟨L3, hL⟩ : ∃ L, ofL fCut La Lb = L := ⟨_, rfl⟩
          rw [hL] at hown hi
          have HSa := Lib.hid (HSa.out.ext hxx)
          have HSb := Lib.hid (HSb.out.ext hxx)
          have HSall := Lib.hid (HSall.out.ext hxx)
          have HS1 := Lib.hid (HS1.out.ext hxx)
          have HS2 := Lib.hid (HS2.out.ext hxx)
          have HX := Lib.hid (Ext.trans HX.out hxx)
          have HXS := Lib.hid (HXS.out.next hxx)
          clear hxn hxx
          have HS3 := Lib.hid hown.sl
          have HI3 := hi
          have HL3 : Hid (L3.length ≤ 161) := Lib.hid (by have h := hi.out.len; have h1 := HLa.out; have h2 := HLb.out; omega)
          clear hown hi hL
          go_wp2_with fail
          refine (has_v _ L3 z _ (HS3.out.ext (by (unfold Ext; repeat (first | exact Below.refl _ _ | assumption | refine Below.drew ?_ | refine below_drewN ?_ _ | refine Below.alloc ?_ (by first | exact Nat.le_refl _ | (simp; done) | (simp; omega) | omega) _ | refine Below.setCell ?_ (by first | exact Nat.le_refl _ | (simp; done) | (simp; omega) | omega) _))))).mono ?_
          rintro e W68 ⟨rfl, hxn⟩
          have hxx : Ext W67 W68 := Ext.trans (by (unfold Ext; repeat (first | exact Below.refl _ _ | assumption | refine Below.drew ?_ | refine below_drewN ?_ _ | refine Below.alloc ?_ (by first | exact Nat.le_refl _ | (simp; done) | (simp; omega) | omega) _ | refine Below.setCell ?_ (by first | exact Nat.le_refl _ | (simp; done) | (simp; omega) | omega) _))) hxn
          rw [show hasB L3 z = true from by rw [HI3.out.set, HQA.out, HQB.out]; rfl]
          have HSa := Lib.hid (HSa.out.ext hxx)
          have HSb := Lib.hid (HSb.out.ext hxx)
          have HSall := Lib.hid (HSall.out.ext hxx)
          have HS1 := Lib.hid (HS1.out.ext hxx)
          have HS2 := Lib.hid (HS2.out.ext hxx)
          have HS3 := Lib.hid (HS3.out.ext hxx)
          have HX := Lib.hid (Ext.trans HX.out hxx)
          have HXS := Lib.hid (HXS.out.next hxx)
          clear hxn hxx
          go_wp2_with fail
          refine (meet_v _ _ La Lb _ (HSa.out.ext (by (unfold Ext; repeat (first | exact Below.refl _ _ | assumption | refine Below.drew ?_ | refine below_drewN ?_ _ | refine Below.alloc ?_ (by first | exact Nat.le_refl _ | (simp; done) | (simp; omega) | omega) _ | refine Below.setCell ?_ (by first | exact Nat.le_refl _ | (simp; done) | (simp; omega) | omega) _)))) (HSb.out.ext (by (unfold Ext; repeat (first | exact Below.refl _ _ | assumption | refine Below.drew ?_ | refine below_drewN ?_ _ | refine Below.alloc ?_ (by first | exact Nat.le_refl _ | (simp; done) | (simp; omega) | omega) _ | refine Below.setCell ?_ (by first | exact Nat.le_refl _ | (simp; done) | (simp; omega) | omega) _)))) (by have h0 := HLa.out; have h1 := HLb.out; omega)).mono ?_
          rintro e W69 ⟨⟨v4, rfl, hown⟩, hi, hxn⟩
          have hxx : Ext W68 W69 := Ext.trans (by (unfold Ext; repeat (first | exact Below.refl _ _ | assumption | refine Below.drew ?_ | refine below_drewN ?_ _ | refine Below.alloc ?_ (by first | exact Nat.le_refl _ | (simp; done) | (simp; omega) | omega) _ | refine Below.setCell ?_ (by first | exact Nat.le_refl _ | (simp; done) | (simp; omega) | omega) _))) hxn
          obtain ⟨L4, hL⟩ : ∃ L, ofL fAnd La Lb = L := ⟨_, rfl⟩
          rw [hL] at hown hi
          have HSa := Lib.hid (HSa.out.ext hxx)
          have HSb := Lib.hid (HSb.out.ext hxx)
          have HSall := Lib.hid (HSall.out.ext hxx)
          have HS1 := Lib.hid (HS1.out.ext hxx)
          have HS2 := Lib.hid (HS2.out.ext hxx)
          have HS3 := Lib.hid (HS3.out.ext hxx)
          have HX := Lib.hid (Ext.trans HX.out hxx)
          have HXS := Lib.hid (HXS.out.next hxx)
          clear hxn hxx
          have HS4 := Lib.hid hown.sl
          have HI4 := hi
          have HL4 : Hid (L4.length ≤ 161) := Lib.hid (by have h := hi.out.len; have h1 := HLa.out; have h2 := HLb.out; omega)
          clear hown hi hL
          go_wp2_with fail
          refine (has_v _ L4 z _ (HS4.out.ext (by (unfold Ext; repeat (first | exact Below.refl _ _ | assumption | refine Below.drew ?_ | refine below_drewN ?_ _ | refine Below.alloc ?_ (by first | exact Nat.le_refl _ | (simp; done) | (simp; omega) | omega) _ | refine Below.setCell ?_ (by first | exact Nat.le_refl _ | (simp; done) | (simp; omega) | omega) _))))).mono ?_
          rintro e W70 ⟨rfl, hxn⟩
          have hxx : Ext W69 W70 := Ext.trans (by (unfold Ext; repeat (first | exact Below.refl _ _ | assumption | refine Below.drew ?_ | refine below_drewN ?_ _ | refine Below.alloc ?_ (by first | exact Nat.le_refl _ | (simp; done) | (simp; omega) | omega) _ | refine Below.setCell ?_ (by first | exact Nat.le_refl _ | (simp; done) | (simp; omega) | omega) _))) hxn
          rw [show hasB L4 z = false from by rw [HI4.out.set, HQA.out, HQB.out]; rfl]
          have HSa := Lib.hid (HSa.out.ext hxx)
          have HSb := Lib.hid (HSb.out.ext hxx)
          have HSall := Lib.hid (HSall.out.ext hxx)
          have HS1 := Lib.hid (HS1.out.ext hxx)
          have HS2 := Lib.hid (HS2.out.ext hxx)
          have HS3 := Lib.hid (HS3.out.ext hxx)
          have HS4 := Lib.hid (HS4.out.ext hxx)
          have HX := Lib.hid (Ext.trans HX.out hxx)
          have HXS := Lib.hid (HXS.out.next hxx)
          clear hxn hxx
          go_wp2
          go_roundw
          case rel => exact ⟨j + 1, by go_num, by omega, HXS.out.ext (by (unfold Ext; repeat (first | exact Below.refl _ _ | assumption | refine Below.drew ?_ | refine below_drewN ?_ _ | refine Below.alloc ?_ (by first | exact Nat.le_refl _ | (simp; done) | (simp; omega) | omega) _ | refine Below.setCell ?_ (by first | exact Nat.le_refl _ | (simp; done) | (simp; omega) | omega) _)))⟩
          case measure => simp [intOf]; omega
        · go_wp2_with fail
          refine (norm_v _ La _ (HSa.out.ext (by (unfold Ext; repeat (first | exact Below.refl _ _ | assumption | refine Below.drew ?_ | refine below_drewN ?_ _ | refine Below.alloc ?_ (by first | exact Nat.le_refl _ | (simp; done) | (simp; omega) | omega) _ | refine Below.setCell ?_ (by first | exact Nat.le_refl _ | (simp; done) | (simp; omega) | omega) _)))) (by have h0 := HLa.out; omega)).mono ?_
          rintro e W63 ⟨⟨v1, rfl, hown⟩, hi, hxn⟩
          have hxx : Ext W62 W63 := Ext.trans (by (unfold Ext; repeat (first | exact Below.refl _ _ | assumption | refine Below.drew ?_ | refine below_drewN ?_ _ | refine Below.alloc ?_ (by first | exact Nat.le_refl _ | (simp; done) | (simp; omega) | omega) _ | refine Below.setCell ?_ (by first | exact Nat.le_refl _ | (simp; done) | (simp; omega) | omega) _))) hxn
          obtain ⟨L1, hL⟩ : ∃ L, ofL fOr La [] = L := ⟨_, rfl⟩
          rw [hL] at hown hi
          have HSa := Lib.hid (HSa.out.ext hxx)
          have HSb := Lib.hid (HSb.out.ext hxx)
          have HSall := Lib.hid (HSall.out.ext hxx)
          have HX := Lib.hid (Ext.trans HX.out hxx)
          have HXS := Lib.hid (HXS.out.next hxx)
          clear hxn hxx
          have HS1 := Lib.hid hown.sl
          have HI1 := hi
          have HL1 : Hid (L1.length ≤ 81) := Lib.hid (by have h := hi.out.len; have h1 := HLa.out; simp only [List.length_nil, Nat.add_zero] at h; omega)
          clear hown hi hL
          go_wp2_with fail
          refine (has_v _ L1 z _ (HS1.out.ext (by (unfold Ext; repeat (first | exact Below.refl _ _ | assumption | refine Below.drew ?_ | refine below_drewN ?_ _ | refine Below.alloc ?_ (by first | exact Nat.le_refl _ | (simp; done) | (simp; omega) | omega) _ | refine Below.setCell ?_ (by first | exact Nat.le_refl _ | (simp; done) | (simp; omega) | omega) _))))).mono ?_
          rintro e W64 ⟨rfl, hxn⟩
          have hxx : Ext W63 W64 := Ext.trans (by (unfold Ext; repeat (first | exact Below.refl _ _ | assumption | refine Below.drew ?_ | refine below_drewN ?_ _ | refine Below.alloc ?_ (by first | exact Nat.le_refl _ | (simp; done) | (simp; omega) | omega) _ | refine Below.setCell ?_ (by first | exact Nat.le_refl _ | (simp; done) | (simp; omega) | omega) _))) hxn
          rw [show hasB L1 z = true from by rw [HI1.out.set, hasB_nil, HQA.out]; rfl]
          have HSa := Lib.hid (HSa.out.ext hxx)
          have HSb := Lib.hid (HSb.out.ext hxx)
          have HSall := Lib.hid (HSall.out.ext hxx)
          have HS1 := Lib.hid (HS1.out.ext hxx)
          have HX := Lib.hid (Ext.trans HX.out hxx)
          have HXS := Lib.hid (HXS.out.next hxx)
          clear hxn hxx
          go_wp2_with fail
          refine (add_v _ _ La Lb _ (HSa.out.ext (by (unfold Ext; repeat (first | exact Below.refl _ _ | assumption | refine Below.drew ?_ | refine below_drewN ?_ _ | refine Below.alloc ?_ (by first | exact Nat.le_refl _ | (simp; done) | (simp; omega) | omega) _ | refine Below.setCell ?_ (by first | exact Nat.le_refl _ | (simp; done) | (simp; omega) | omega) _)))) (HSb.out.ext (by (unfold Ext; repeat (first | exact Below.refl _ _ | assumption | refine Below.drew ?_ | refine below_drewN ?_ _ | refine Below.alloc ?_ (by first | exact Nat.le_refl _ | (simp; done) | (simp; omega) | omega) _ | refine Below.setCell ?_ (by first | exact Nat.le_refl _ | (simp; done) | (simp; omega) | omega) _)))) (by have h0 := HLa.out; have h1 := HLb.out; omega)).mono ?_
          rintro e W65 ⟨⟨v2, rfl, hown⟩, hi, hxn⟩
          have hxx : Ext W64 W65 := Ext.trans (by (unfold Ext; repeat (first | exact Below.refl _ _ | assumption | refine Below.drew ?_ | refine below_drewN ?_ _ | refine Below.alloc ?_ (by first | exact Nat.le_refl _ | (simp; done) | (simp; omega) | omega) _ | refine Below.setCell ?_ (by first | exact Nat.le_refl _ | (simp; done) | (simp; omega) | omega) _))) hxn
          obtain ⟨L2, hL⟩ : ∃ L, ofL fOr La Lb = L := ⟨_, rfl⟩
          rw [hL] at hown hi
          have HSa := Lib.hid (HSa.out.ext hxx)
          have HSb := Lib.hid (HSb.out.ext hxx)
          have HSall := Lib.hid (HSall.out.ext hxx)
          have HS1 := Lib.hid (HS1.out.ext hxx)
          have HX := Lib.hid (Ext.trans HX.out hxx)
          have HXS := Lib.hid (HXS.out.next hxx)
          clear hxn hxx
          have HS2 := Lib.hid hown.sl
          have HI2 := hi
          have HL2 : Hid (L2.length ≤ 161) := Lib.hid (by have h := hi.out.len; have h1 := HLa.out; have h2 := HLb.out; omega)
          clear hown hi hL
          go_wp2_with fail
          refine (has_v _ L2 z _ (HS2.out.ext (by (unfold Ext; repeat (first | exact Below.refl _ _ | assumption | refine Below.drew ?_ | refine below_drewN ?_ _ | refine Below.alloc ?_ (by first | exact Nat.le_refl _ | (simp; done) | (simp; omega) | omega) _ | refine Below.setCell ?_ (by first | exact Nat.le_refl _ | (simp; done) | (simp; omega) | omega) _))))).mono ?_
          rintro e W66 ⟨rfl, hxn⟩
          have hxx : Ext W65 W66 := Ext.trans (by (unfold Ext; repeat (first | exact Below.refl _ _ | assumption | refine Below.drew ?_ | refine below_drewN ?_ _ | refine Below.alloc ?_ (by first | exact Nat.le_refl _ | (simp; done) | (simp; omega) | omega) _ | refine Below.setCell ?_ (by first | exact Nat.le_refl _ | (simp; done) | (simp; omega) | omega) _))) hxn
          rw [show hasB L2 z = true from by rw [HI2.out.set, HQA.out, HQB.out]; rfl]
          have HSa := Lib.hid (HSa.out.ext hxx)
          have HSb := Lib.hid (HSb.out.ext hxx)
          have HSall := Lib.hid (HSall.out.ext hxx)
          have HS1 := Lib.hid (HS1.out.ext hxx)
          have HS2 := Lib.hid (HS2.out.ext hxx)
          have HX := Lib.hid (Ext.trans HX.out hxx)
          have HXS := Lib.hid (HXS.out.next hxx)
          clear hxn hxx
          go_wp2_with fail
          refine (cut_v _ _ La Lb _ (HSa.out.ext (by (unfold Ext; repeat (first | exact Below.refl _ _ | assumption | refine Below.drew ?_ | refine below_drewN ?_ _ | refine Below.alloc ?_ (by first | exact Nat.le_refl _ | (simp; done) | (simp; omega) | omega) _ | refine Below.setCell ?_ (by first | exact Nat.le_refl _ | (simp; done) | (simp; omega) | omega) _)))) (HSb.out.ext (by (unfold Ext; repeat (first | exact Below.refl _ _ | assumption | refine Below.drew ?_ | refine below_drewN ?_ _ | refine Below.alloc ?_ (by first | exact Nat.le_refl _ | (simp; done) | (simp; omega) | omega) _ | refine Below.setCell ?_ (by first | exact Nat.le_refl _ | (simp; done) | (simp; omega) | omega) _)))) (by have h0 := HLa.out; have h1 := HLb.out; omega)).mono ?_
          rintro e W67 ⟨⟨v3, rfl, hown⟩, hi, hxn⟩
          have hxx : Ext W66 W67 := Ext.trans (by (unfold Ext; repeat (first | exact Below.refl _ _ | assumption | refine Below.drew ?_ | refine below_drewN ?_ _ | refine Below.alloc ?_ (by first | exact Nat.le_refl _ | (simp; done) | (simp; omega) | omega) _ | refine Below.setCell ?_ (by first | exact Nat.le_refl _ | (simp; done) | (simp; omega) | omega) _))) hxn
          obtain ⟨L3, hL⟩ : ∃ L, ofL fCut La Lb = L := ⟨_, rfl⟩
          rw [hL] at hown hi
          have HSa := Lib.hid (HSa.out.ext hxx)
          have HSb := Lib.hid (HSb.out.ext hxx)
          have HSall := Lib.hid (HSall.out.ext hxx)
          have HS1 := Lib.hid (HS1.out.ext hxx)
          have HS2 := Lib.hid (HS2.out.ext hxx)
          have HX := Lib.hid (Ext.trans HX.out hxx)
          have HXS := Lib.hid (HXS.out.next hxx)
          clear hxn hxx
          have HS3 := Lib.hid hown.sl
          have HI3 := hi
          have HL3 : Hid (L3.length ≤ 161) := Lib.hid (by have h := hi.out.len; have h1 := HLa.out; have h2 := HLb.out; omega)
          clear hown hi hL
          go_wp2_with fail
          refine (has_v _ L3 z _ (HS3.out.ext (by (unfold Ext; repeat (first | exact Below.refl _ _ | assumption | refine Below.drew ?_ | refine below_drewN ?_ _ | refine Below.alloc ?_ (by first | exact Nat.le_refl _ | (simp; done) | (simp; omega) | omega) _ | refine Below.setCell ?_ (by first | exact Nat.le_refl _ | (simp; done) | (simp; omega) | omega) _))))).mono ?_
          rintro e W68 ⟨rfl, hxn⟩
          have hxx : Ext W67 W68 := Ext.trans (by (unfold Ext; repeat (first | exact Below.refl _ _ | assumption | refine Below.drew ?_ | refine below_drewN ?_ _ | refine Below.alloc ?_ (by first | exact Nat.le_refl _ | (simp; done) | (simp; omega) | omega) _ | refine Below.setCell ?_ (by first | exact Nat.le_refl _ | (simp; done) | (simp; omega) | omega) _))) hxn
          rw [show hasB L3 z = false from by rw [HI3.out.set, HQA.out, HQB.out]; rfl]
          have HSa := Lib.hid (HSa.out.ext hxx)
          have HSb := Lib.hid (HSb.out.ext hxx)
          have HSall := Lib.hid (HSall.out.ext hxx)
          have HS1 := Lib.hid (HS1.out.ext hxx)
          have HS2 := Lib.hid (HS2.out.ext hxx)
          have HS3 := Lib.hid (HS3.out.ext hxx)
          have HX := Lib.hid (Ext.trans HX.out hxx)
          have HXS := Lib.hid (HXS.out.next hxx)
          clear hxn hxx
          go_wp2_with fail
          refine (meet_v _ _ La Lb _ (HSa.out.ext (by (unfold Ext; repeat (first | exact Below.refl _ _ | assumption | refine Below.drew ?_ | refine below_drewN ?_ _ | refine Below.alloc ?_ (by first | exact Nat.le_refl _ | (simp; done) | (simp; omega) | omega) _ | refine Below.setCell ?_ (by first | exact Nat.le_refl _ | (simp; done) | (simp; omega) | omega) _)))) (HSb.out.ext (by (unfold Ext; repeat (first | exact Below.refl _ _ | assumption | refine Below.drew ?_ | refine below_drewN ?_ _ | refine Below.alloc ?_ (by first | exact Nat.le_refl _ | (simp; done) | (simp; omega) | omega) _ | refine Below.setCell ?_ (by first | exact Nat.le_refl _ | (simp; done) | (simp; omega) | omega) _)))) (by have h0 := HLa.out; have h1 := HLb.out; omega)).mono ?_
          rintro e W69 ⟨⟨v4, rfl, hown⟩, hi, hxn⟩
          have hxx : Ext W68 W69 := Ext.trans (by (unfold Ext; repeat (first | exact Below.refl _ _ | assumption | refine Below.drew ?_ | refine below_drewN ?_ _ | refine Below.alloc ?_ (by first | exact Nat.le_refl _ | (simp; done) | (simp; omega) | omega) _ | refine Below.setCell ?_ (by first | exact Nat.le_refl _ | (simp; done) | (simp; omega) | omega) _))) hxn
          obtain ⟨L4, hL⟩ : ∃ L, ofL fAnd La Lb = L := ⟨_, rfl⟩
          rw [hL] at hown hi
          have HSa := Lib.hid (HSa.out.ext hxx)
          have HSb := Lib.hid (HSb.out.ext hxx)
          have HSall := Lib.hid (HSall.out.ext hxx)
          have HS1 := Lib.hid (HS1.out.ext hxx)
          have HS2 := Lib.hid (HS2.out.ext hxx)
          have HS3 := Lib.hid (HS3.out.ext hxx)
          have HX := Lib.hid (Ext.trans HX.out hxx)
          have HXS := Lib.hid (HXS.out.next hxx)
          clear hxn hxx
          have HS4 := Lib.hid hown.sl
          have HI4 := hi
          have HL4 : Hid (L4.length ≤ 161) := Lib.hid (by have h := hi.out.len; have h1 := HLa.out; have h2 := HLb.out; omega)
          clear hown hi hL
          go_wp2_with fail
          refine (has_v _ L4 z _ (HS4.out.ext (by (unfold Ext; repeat (first | exact Below.refl _ _ | assumption | refine Below.drew ?_ | refine below_drewN ?_ _ | refine Below.alloc ?_ (by first | exact Nat.le_refl _ | (simp; done) | (simp; omega) | omega) _ | refine Below.setCell ?_ (by first | exact Nat.le_refl _ | (simp; done) | (simp; omega) | omega) _))))).mono ?_
          rintro e W70 ⟨rfl, hxn⟩
          have hxx : Ext W69 W70 := Ext.trans (by (unfold Ext; repeat (first | exact Below.refl _ _ | assumption | refine Below.drew ?_ | refine below_drewN ?_ _ | refine Below.alloc ?_ (by first | exact Nat.le_refl _ | (simp; done) | (simp; omega) | omega) _ | refine Below.setCell ?_ (by first | exact Nat.le_refl _ | (simp; done) | (simp; omega) | omega) _))) hxn
          rw [show hasB L4 z = true from by rw [HI4.out.set, HQA.out, HQB.out]; rfl]
          have HSa := Lib.hid (HSa.out.ext hxx)
          have HSb := Lib.hid (HSb.out.ext hxx)
          have HSall := Lib.hid (HSall.out.ext hxx)
          have HS1 := Lib.hid (HS1.out.ext hxx)
          have HS2 := Lib.hid (HS2.out.ext hxx)
          have HS3 := Lib.hid (HS3.out.ext hxx)
          have HS4 := Lib.hid (HS4.out.ext hxx)
          have HX := Lib.hid (Ext.trans HX.out hxx)
          have HXS := Lib.hid (HXS.out.next hxx)
          clear hxn hxx
          go_wp2
          go_roundw
          case rel => exact ⟨j + 1, by go_num, by omega, HXS.out.ext (by (unfold Ext; repeat (first | exact Below.refl _ _ | assumption | refine Below.drew ?_ | refine below_drewN ?_ _ | refine Below.alloc ?_ (by first | exact Nat.le_refl _ | (simp; done) | (simp; omega) | omega) _ | refine Below.setCell ?_ (by first | exact Nat.le_refl _ | (simp; done) | (simp; omega) | omega) _)))⟩
          case measure => simp [intOf]; omega
    · obtain rfl : j = 3 := by omega
      go_wp2
      go_ret
      exact ⟨rfl, Ext.trans HX.out (Ext.trans (Ext.alloc _ _) hxr)⟩
end Go.Proofs.Ytdpaagingfeoeaa.Sp
