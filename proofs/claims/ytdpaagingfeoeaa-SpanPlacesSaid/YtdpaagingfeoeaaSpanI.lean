/- Spans: a place about the bounds; the live question. -/
import Derived.Test.YtdpaagingfeoeaaSpanH
namespace Go.Proofs.Ytdpaagingfeoeaa.Sp
open Go.RowKit Go.Proofs.Ytdpaagingfeoeaa
set_option linter.unusedVariables false

theorem hasB_nil (t : Int) : hasB [] t = false := by simp [hasB]
theorem hasB_append (a b : List Span) (t : Int) : hasB (a ++ b) t = (hasB a t || hasB b t) := by
  unfold hasB
  rw [List.any_append]
  cases decide (0 ≤ t ∧ t < 1099511627776) <;> simp
theorem hasB_reverse (a : List Span) (t : Int) : hasB a.reverse t = hasB a t := by
  unfold hasB
  rw [List.any_reverse]
def encS (x : Span) : List Value := [.int .i64 x.1, .int .i64 x.2]
theorem all_sp (w : World) : ∀ {l : List Span}, (∀ x ∈ l, (Lit.int .i64 x.1).wf = true ∧ (Lit.int .i64 x.2).wf = true) → LSpan.All w (l.flatMap encS) l
  | [], _ => rfl
  | x :: l, h => ⟨encS x, l.flatMap encS, rfl, ⟨[.int .i64 x.1], [.int .i64 x.2], rfl, ⟨rfl, (h x (by simp)).1⟩, ⟨rfl, (h x (by simp)).2⟩⟩, all_sp w fun y hy => h y (by simp [hy])⟩
theorem sp_lit {w w1 : World} {cs : Array Value} {t : TypeId} {fr : Nat × Nat} {n B : Nat} {l : List Span} (hx : Ext (w.alloc (.cells cs t fr)) w1) (hc : cs.toList = l.flatMap encS) (hw : ∀ x ∈ l, (Lit.int .i64 x.1).wf = true ∧ (Lit.int .i64 x.2).wf = true) (hB : w.heap.size = B) (hn : l.length = n) (hl : n ≤ 1000) : LSpan.Sl w1 (.slice (some ⟨B, 0, none⟩) n n) l :=
  ⟨_, _, _, rfl, Lay.Row.lit hx (by rw [hc]; exact all_sp _ hw) hB hn (by omega), Nat.le_refl _, by omega, fun _ => ⟨_, _, rfl⟩⟩
/-- the spans of a set, written out -/
theorem is_lit {f : Bool → Bool → Bool} {a b L l : List Span} (h : IsOf f a b L) (ho : Ordered l) (hs : ∀ t, hasB l t = f (hasB a t) (hasB b t)) : L = l := ordered_uniq h.ord ho fun t => by rw [h.set, hs]
theorem ordered_self {L m : List Span} (h : IsOf fOr m [] L) (hm : Ordered m) : L = m := ordered_uniq h.ord hm fun t => by rw [h.set, hasB_nil]; cases hasB m t <;> rfl

def RetNear (w : World) (e : Ending) (w' : World) : Prop := (∃ r : Int, e = .returned (.int .i64 r)) ∧ Ext w w'

set_option maxRecDepth 100000 in
set_option maxHeartbeats 4000000 in
theorem near_v (u : Value) (l : List Span) (a : Int) (w : World) (hu : LSpan.Sl w u l) (hn : l.length ≤ 100000) :
    Calls Try.prog 24 #[u, .int .i64 a] w (RetNear w) := by
  obtain ⟨p, n, c, rfl, hr, _, _, _⟩ := hu
  rw [hr.1] at hn
  have HP := Lib.hid hr
  have HL : Hid (l.length = n) := Lib.hid hr.1
  clear hr
  by_cases h0 : n = 0
  · subst h0
    go_enter Try.func24, Try.ntmps24
    go_wp2
    go_ret
    exact ⟨⟨_, rfl⟩, Ext.refl _⟩
  · have h1 : ((n : Int) == 0) = false := by simpa using h0
    have h2 : (6 * (n : Int) == 0) = false := by simp; omega
    obtain ⟨A, hA⟩ : ∃ A, a.tmod (6 * (n : Int)) = A := ⟨_, rfl⟩
    have hA1 : -(6 * (n : Int)) < A ∧ A < 6 * (n : Int) := by
      rw [← hA]
      have h3 : 0 < 6 * (n : Int) := by omega
      constructor
      · rcases Int.le_total 0 a with h4 | h4
        · rw [Int.tmod_eq_emod_of_nonneg h4]
          have := Int.emod_nonneg a (b := 6 * (n : Int)) (by omega)
          omega
        · have h5 : a.tmod (6 * (n : Int)) = -((-a).tmod (6 * (n : Int))) := by rw [Int.neg_tmod, Int.neg_neg]
          rw [h5, Int.tmod_eq_emod_of_nonneg (by omega)]
          have := Int.emod_lt_of_pos (-a) h3
          omega
      · exact Int.tmod_lt_of_pos a h3
    obtain ⟨hA2, hA3⟩ := hA1
    obtain ⟨k, hk⟩ : ∃ k : Nat, (A + 6 * (n : Int)) % (6 * (n : Int)) = (k : Int) := ⟨((A + 6 * (n : Int)) % (6 * (n : Int))).toNat, by have := Int.emod_nonneg (A + 6 * (n : Int)) (b := 6 * (n : Int)) (by omega); omega⟩
    have hk2 : (k : Int) < 6 * (n : Int) := by rw [← hk]; exact Int.emod_lt_of_pos _ (by omega)
    obtain ⟨s, gs⟩ := get_of l (k / 6) (by rw [HL.out]; omega)
    obtain ⟨b, off, rfl, c0, c1, _, _⟩ := span_at HP.out gs
    obtain ⟨f, t⟩ := s
    simp only at c0 c1
    have hj1 : (k : Int) / 6 < (n : Int) := by omega
    have hj0 : (0 : Int) ≤ (k : Int) / 6 := by omega
    have ht : ((k : Int) / 6).toNat = k / 6 := by omega
    have hk0 : (0 : Int) ≤ (k : Int) := by omega
    clear gs h0
    go_enter Try.func24, Try.ntmps24
    go_wp2
    all_goals
      go_ret
      exact ⟨⟨_, rfl⟩, Ext.alloc _ _⟩

set_option maxRecDepth 100000 in
set_option maxHeartbeats 8000000 in
theorem head_any (w : World) : Calls Try.prog 9 #[] w fun e w' => e = .returned (.bool true) ∧ Ext w w' := by
  have HSa : Hid (LSpan.Sl ((w.alloc (.cells #[.int .i64 3, .int .i64 5, .int .i64 1, .int .i64 3, .int .i64 9, .int .i64 9] 33)).alloc (.cells #[.int .i64 0, .int .i64 4, .int .i64 6, .int .i64 8] 33)) (.slice (some ⟨w.heap.size, 0, none⟩) 3 3) [(3, 5), (1, 3), (9, 9)]) := Lib.hid (sp_lit (Ext.alloc _ _) rfl (by decide) rfl rfl (by decide))
  have HSb : Hid (LSpan.Sl ((w.alloc (.cells #[.int .i64 3, .int .i64 5, .int .i64 1, .int .i64 3, .int .i64 9, .int .i64 9] 33)).alloc (.cells #[.int .i64 0, .int .i64 4, .int .i64 6, .int .i64 8] 33)) (.slice (some ⟨w.heap.size + 1, 0, none⟩) 2 2) [(0, 4), (6, 8)]) := Lib.hid (sp_lit (Ext.refl _) rfl (by decide) (by simp) rfl (by decide))
  have HX : Hid (Ext w ((w.alloc (.cells #[.int .i64 3, .int .i64 5, .int .i64 1, .int .i64 3, .int .i64 9, .int .i64 9] 33)).alloc (.cells #[.int .i64 0, .int .i64 4, .int .i64 6, .int .i64 8] 33))) := Lib.hid (by (unfold Ext; repeat (first | exact Below.refl _ _ | assumption | refine Below.drew ?_ | refine below_drewN ?_ _ | refine Below.alloc ?_ (by first | exact Nat.le_refl _ | (simp; done) | (simp; omega) | omega) _ | refine Below.setCell ?_ (by first | exact Nat.le_refl _ | (simp; done) | (simp; omega) | omega) _)))
  have HLa : Hid (([(3, 5), (1, 3), (9, 9)] : List Span).length ≤ 3) := Lib.hid (by decide)
  have HLb : Hid (([(0, 4), (6, 8)] : List Span).length ≤ 2) := Lib.hid (by decide)
  go_enter Try.func9, Try.ntmps9
  go_wp2_with fail
  refine (norm_v _ [(3, 5), (1, 3), (9, 9)] _ (HSa.out.ext (by (unfold Ext; repeat (first | exact Below.refl _ _ | assumption | refine Below.drew ?_ | refine below_drewN ?_ _ | refine Below.alloc ?_ (by first | exact Nat.le_refl _ | (simp; done) | (simp; omega) | omega) _ | refine Below.setCell ?_ (by first | exact Nat.le_refl _ | (simp; done) | (simp; omega) | omega) _)))) (by have h0 := HLa.out; omega)).mono ?_
  rintro e W1 ⟨⟨v1, rfl, hown⟩, hi, hxn⟩
  have hxx : Ext ((w.alloc (.cells #[.int .i64 3, .int .i64 5, .int .i64 1, .int .i64 3, .int .i64 9, .int .i64 9] 33)).alloc (.cells #[.int .i64 0, .int .i64 4, .int .i64 6, .int .i64 8] 33)) W1 := Ext.trans (by (unfold Ext; repeat (first | exact Below.refl _ _ | assumption | refine Below.drew ?_ | refine below_drewN ?_ _ | refine Below.alloc ?_ (by first | exact Nat.le_refl _ | (simp; done) | (simp; omega) | omega) _ | refine Below.setCell ?_ (by first | exact Nat.le_refl _ | (simp; done) | (simp; omega) | omega) _))) hxn
  obtain ⟨L1, hL⟩ : ∃ L, ofL fOr [(3, 5), (1, 3), (9, 9)] [] = L := ⟨_, rfl⟩
  rw [hL] at hown hi
  have HSa := Lib.hid (HSa.out.ext hxx)
  have HSb := Lib.hid (HSb.out.ext hxx)
  have HX := Lib.hid (Ext.trans HX.out hxx)
  clear hxn hxx
  have HS1 := Lib.hid hown.sl
  have HI1 := hi
  have HL1 : Hid (L1.length ≤ 7) := Lib.hid (by have h := hi.out.len; have h1 := HLa.out; simp at h; omega)
  clear hown hi hL
  go_wp2_with fail
  refine (same_v _ _ L1 [(1, 5)] _ (HS1.out.ext (by (unfold Ext; repeat (first | exact Below.refl _ _ | assumption | refine Below.drew ?_ | refine below_drewN ?_ _ | refine Below.alloc ?_ (by first | exact Nat.le_refl _ | (simp; done) | (simp; omega) | omega) _ | refine Below.setCell ?_ (by first | exact Nat.le_refl _ | (simp; done) | (simp; omega) | omega) _)))) (sp_lit (Ext.refl _) rfl (by decide) rfl rfl (by decide))).mono ?_
  rintro e W2 ⟨rfl, hxn⟩
  have hxx : Ext W1 W2 := Ext.trans (by (unfold Ext; repeat (first | exact Below.refl _ _ | assumption | refine Below.drew ?_ | refine below_drewN ?_ _ | refine Below.alloc ?_ (by first | exact Nat.le_refl _ | (simp; done) | (simp; omega) | omega) _ | refine Below.setCell ?_ (by first | exact Nat.le_refl _ | (simp; done) | (simp; omega) | omega) _))) hxn
  rw [decide_eq_true (show L1 = [(1, 5)] from is_lit HI1.out (by simp [Ordered, Ord]) (fun t => by rw [Bool.eq_iff_iff]; simp [hasB, inB, fOr]; omega))]
  have HSa := Lib.hid (HSa.out.ext hxx)
  have HSb := Lib.hid (HSb.out.ext hxx)
  have HS1 := Lib.hid (HS1.out.ext hxx)
  have HX := Lib.hid (Ext.trans HX.out hxx)
  clear hxn hxx
  go_wp2_with fail
  refine (cut_v _ _ [(0, 10)] [(3, 5)] _ (sp_lit (Ext.alloc _ _) rfl (by decide) rfl rfl (by decide)) (sp_lit (Ext.refl _) rfl (by decide) (by simp) rfl (by decide)) (by decide)).mono ?_
  rintro e W3 ⟨⟨v2, rfl, hown⟩, hi, hxn⟩
  have hxx : Ext W2 W3 := Ext.trans (by (unfold Ext; repeat (first | exact Below.refl _ _ | assumption | refine Below.drew ?_ | refine below_drewN ?_ _ | refine Below.alloc ?_ (by first | exact Nat.le_refl _ | (simp; done) | (simp; omega) | omega) _ | refine Below.setCell ?_ (by first | exact Nat.le_refl _ | (simp; done) | (simp; omega) | omega) _))) hxn
  obtain ⟨L2, hL⟩ : ∃ L, ofL fCut [(0, 10)] [(3, 5)] = L := ⟨_, rfl⟩
  rw [hL] at hown hi
  have HSa := Lib.hid (HSa.out.ext hxx)
  have HSb := Lib.hid (HSb.out.ext hxx)
  have HS1 := Lib.hid (HS1.out.ext hxx)
  have HX := Lib.hid (Ext.trans HX.out hxx)
  clear hxn hxx
  have HS2 := Lib.hid hown.sl
  have HI2 := hi
  clear hown hi hL
  go_wp2_with fail
  refine (same_v _ _ L2 [(0, 3), (5, 10)] _ (HS2.out.ext (by (unfold Ext; repeat (first | exact Below.refl _ _ | assumption | refine Below.drew ?_ | refine below_drewN ?_ _ | refine Below.alloc ?_ (by first | exact Nat.le_refl _ | (simp; done) | (simp; omega) | omega) _ | refine Below.setCell ?_ (by first | exact Nat.le_refl _ | (simp; done) | (simp; omega) | omega) _)))) (sp_lit (Ext.refl _) rfl (by decide) rfl rfl (by decide))).mono ?_
  rintro e W4 ⟨rfl, hxn⟩
  have hxx : Ext W3 W4 := Ext.trans (by (unfold Ext; repeat (first | exact Below.refl _ _ | assumption | refine Below.drew ?_ | refine below_drewN ?_ _ | refine Below.alloc ?_ (by first | exact Nat.le_refl _ | (simp; done) | (simp; omega) | omega) _ | refine Below.setCell ?_ (by first | exact Nat.le_refl _ | (simp; done) | (simp; omega) | omega) _))) hxn
  rw [decide_eq_true (show L2 = [(0, 3), (5, 10)] from is_lit HI2.out (by simp [Ordered, Ord]) (fun t => by rw [Bool.eq_iff_iff]; simp [hasB, inB, fCut]; omega))]
  have HSa := Lib.hid (HSa.out.ext hxx)
  have HSb := Lib.hid (HSb.out.ext hxx)
  have HS1 := Lib.hid (HS1.out.ext hxx)
  have HS2 := Lib.hid (HS2.out.ext hxx)
  have HX := Lib.hid (Ext.trans HX.out hxx)
  clear hxn hxx
  go_wp2_with fail
  refine (meet_v _ _ [(0, 4), (6, 8)] [(3, 7)] _ (HSb.out.ext (by (unfold Ext; repeat (first | exact Below.refl _ _ | assumption | refine Below.drew ?_ | refine below_drewN ?_ _ | refine Below.alloc ?_ (by first | exact Nat.le_refl _ | (simp; done) | (simp; omega) | omega) _ | refine Below.setCell ?_ (by first | exact Nat.le_refl _ | (simp; done) | (simp; omega) | omega) _)))) (sp_lit (Ext.refl _) rfl (by decide) rfl rfl (by decide)) (by decide)).mono ?_
  rintro e W5 ⟨⟨v3, rfl, hown⟩, hi, hxn⟩
  have hxx : Ext W4 W5 := Ext.trans (by (unfold Ext; repeat (first | exact Below.refl _ _ | assumption | refine Below.drew ?_ | refine below_drewN ?_ _ | refine Below.alloc ?_ (by first | exact Nat.le_refl _ | (simp; done) | (simp; omega) | omega) _ | refine Below.setCell ?_ (by first | exact Nat.le_refl _ | (simp; done) | (simp; omega) | omega) _))) hxn
  obtain ⟨L3, hL⟩ : ∃ L, ofL fAnd [(0, 4), (6, 8)] [(3, 7)] = L := ⟨_, rfl⟩
  rw [hL] at hown hi
  have HSa := Lib.hid (HSa.out.ext hxx)
  have HSb := Lib.hid (HSb.out.ext hxx)
  have HS1 := Lib.hid (HS1.out.ext hxx)
  have HS2 := Lib.hid (HS2.out.ext hxx)
  have HX := Lib.hid (Ext.trans HX.out hxx)
  clear hxn hxx
  have HS3 := Lib.hid hown.sl
  have HI3 := hi
  clear hown hi hL
  go_wp2_with fail
  refine (same_v _ _ L3 [(3, 4), (6, 7)] _ (HS3.out.ext (by (unfold Ext; repeat (first | exact Below.refl _ _ | assumption | refine Below.drew ?_ | refine below_drewN ?_ _ | refine Below.alloc ?_ (by first | exact Nat.le_refl _ | (simp; done) | (simp; omega) | omega) _ | refine Below.setCell ?_ (by first | exact Nat.le_refl _ | (simp; done) | (simp; omega) | omega) _)))) (sp_lit (Ext.refl _) rfl (by decide) rfl rfl (by decide))).mono ?_
  rintro e W6 ⟨rfl, hxn⟩
  have hxx : Ext W5 W6 := Ext.trans (by (unfold Ext; repeat (first | exact Below.refl _ _ | assumption | refine Below.drew ?_ | refine below_drewN ?_ _ | refine Below.alloc ?_ (by first | exact Nat.le_refl _ | (simp; done) | (simp; omega) | omega) _ | refine Below.setCell ?_ (by first | exact Nat.le_refl _ | (simp; done) | (simp; omega) | omega) _))) hxn
  rw [decide_eq_true (show L3 = [(3, 4), (6, 7)] from is_lit HI3.out (by simp [Ordered, Ord]) (fun t => by rw [Bool.eq_iff_iff]; simp [hasB, inB, fAnd]; omega))]
  have HSa := Lib.hid (HSa.out.ext hxx)
  have HSb := Lib.hid (HSb.out.ext hxx)
  have HS1 := Lib.hid (HS1.out.ext hxx)
  have HS2 := Lib.hid (HS2.out.ext hxx)
  have HS3 := Lib.hid (HS3.out.ext hxx)
  have HX := Lib.hid (Ext.trans HX.out hxx)
  clear hxn hxx
  go_wp2_with fail
  refine (add_v _ _ [(0, 4), (6, 8)] [(4, 6)] _ (HSb.out.ext (by (unfold Ext; repeat (first | exact Below.refl _ _ | assumption | refine Below.drew ?_ | refine below_drewN ?_ _ | refine Below.alloc ?_ (by first | exact Nat.le_refl _ | (simp; done) | (simp; omega) | omega) _ | refine Below.setCell ?_ (by first | exact Nat.le_refl _ | (simp; done) | (simp; omega) | omega) _)))) (sp_lit (Ext.refl _) rfl (by decide) rfl rfl (by decide)) (by decide)).mono ?_
  rintro e W7 ⟨⟨v4, rfl, hown⟩, hi, hxn⟩
  have hxx : Ext W6 W7 := Ext.trans (by (unfold Ext; repeat (first | exact Below.refl _ _ | assumption | refine Below.drew ?_ | refine below_drewN ?_ _ | refine Below.alloc ?_ (by first | exact Nat.le_refl _ | (simp; done) | (simp; omega) | omega) _ | refine Below.setCell ?_ (by first | exact Nat.le_refl _ | (simp; done) | (simp; omega) | omega) _))) hxn
  obtain ⟨L4, hL⟩ : ∃ L, ofL fOr [(0, 4), (6, 8)] [(4, 6)] = L := ⟨_, rfl⟩
  rw [hL] at hown hi
  have HSa := Lib.hid (HSa.out.ext hxx)
  have HSb := Lib.hid (HSb.out.ext hxx)
  have HS1 := Lib.hid (HS1.out.ext hxx)
  have HS2 := Lib.hid (HS2.out.ext hxx)
  have HS3 := Lib.hid (HS3.out.ext hxx)
  have HX := Lib.hid (Ext.trans HX.out hxx)
  clear hxn hxx
  have HS4 := Lib.hid hown.sl
  have HI4 := hi
  clear hown hi hL
  go_wp2_with fail
  refine (same_v _ _ L4 [(0, 8)] _ (HS4.out.ext (by (unfold Ext; repeat (first | exact Below.refl _ _ | assumption | refine Below.drew ?_ | refine below_drewN ?_ _ | refine Below.alloc ?_ (by first | exact Nat.le_refl _ | (simp; done) | (simp; omega) | omega) _ | refine Below.setCell ?_ (by first | exact Nat.le_refl _ | (simp; done) | (simp; omega) | omega) _)))) (sp_lit (Ext.refl _) rfl (by decide) rfl rfl (by decide))).mono ?_
  rintro e W8 ⟨rfl, hxn⟩
  have hxx : Ext W7 W8 := Ext.trans (by (unfold Ext; repeat (first | exact Below.refl _ _ | assumption | refine Below.drew ?_ | refine below_drewN ?_ _ | refine Below.alloc ?_ (by first | exact Nat.le_refl _ | (simp; done) | (simp; omega) | omega) _ | refine Below.setCell ?_ (by first | exact Nat.le_refl _ | (simp; done) | (simp; omega) | omega) _))) hxn
  rw [decide_eq_true (show L4 = [(0, 8)] from is_lit HI4.out (by simp [Ordered, Ord]) (fun t => by rw [Bool.eq_iff_iff]; simp [hasB, inB, fOr]; omega))]
  have HSa := Lib.hid (HSa.out.ext hxx)
  have HSb := Lib.hid (HSb.out.ext hxx)
  have HS1 := Lib.hid (HS1.out.ext hxx)
  have HS2 := Lib.hid (HS2.out.ext hxx)
  have HS3 := Lib.hid (HS3.out.ext hxx)
  have HS4 := Lib.hid (HS4.out.ext hxx)
  have HX := Lib.hid (Ext.trans HX.out hxx)
  clear hxn hxx
  go_wp2_with fail
  refine (has_v _ [(3, 5), (1, 3), (9, 9)] 4 _ (HSa.out.ext (by (unfold Ext; repeat (first | exact Below.refl _ _ | assumption | refine Below.drew ?_ | refine below_drewN ?_ _ | refine Below.alloc ?_ (by first | exact Nat.le_refl _ | (simp; done) | (simp; omega) | omega) _ | refine Below.setCell ?_ (by first | exact Nat.le_refl _ | (simp; done) | (simp; omega) | omega) _))))).mono ?_
  rintro e W9 ⟨rfl, hxn⟩
  have hxx : Ext W8 W9 := Ext.trans (by (unfold Ext; repeat (first | exact Below.refl _ _ | assumption | refine Below.drew ?_ | refine below_drewN ?_ _ | refine Below.alloc ?_ (by first | exact Nat.le_refl _ | (simp; done) | (simp; omega) | omega) _ | refine Below.setCell ?_ (by first | exact Nat.le_refl _ | (simp; done) | (simp; omega) | omega) _))) hxn
  rw [show hasB [(3, 5), (1, 3), (9, 9)] 4 = true by decide]
  have HSa := Lib.hid (HSa.out.ext hxx)
  have HSb := Lib.hid (HSb.out.ext hxx)
  have HS1 := Lib.hid (HS1.out.ext hxx)
  have HS2 := Lib.hid (HS2.out.ext hxx)
  have HS3 := Lib.hid (HS3.out.ext hxx)
  have HS4 := Lib.hid (HS4.out.ext hxx)
  have HX := Lib.hid (Ext.trans HX.out hxx)
  clear hxn hxx
  go_wp2_with fail
  refine (has_v _ [(3, 5), (1, 3), (9, 9)] 9 _ (HSa.out.ext (by (unfold Ext; repeat (first | exact Below.refl _ _ | assumption | refine Below.drew ?_ | refine below_drewN ?_ _ | refine Below.alloc ?_ (by first | exact Nat.le_refl _ | (simp; done) | (simp; omega) | omega) _ | refine Below.setCell ?_ (by first | exact Nat.le_refl _ | (simp; done) | (simp; omega) | omega) _))))).mono ?_
  rintro e W10 ⟨rfl, hxn⟩
  have hxx : Ext W9 W10 := Ext.trans (by (unfold Ext; repeat (first | exact Below.refl _ _ | assumption | refine Below.drew ?_ | refine below_drewN ?_ _ | refine Below.alloc ?_ (by first | exact Nat.le_refl _ | (simp; done) | (simp; omega) | omega) _ | refine Below.setCell ?_ (by first | exact Nat.le_refl _ | (simp; done) | (simp; omega) | omega) _))) hxn
  rw [show hasB [(3, 5), (1, 3), (9, 9)] 9 = false by decide]
  have HSa := Lib.hid (HSa.out.ext hxx)
  have HSb := Lib.hid (HSb.out.ext hxx)
  have HS1 := Lib.hid (HS1.out.ext hxx)
  have HS2 := Lib.hid (HS2.out.ext hxx)
  have HS3 := Lib.hid (HS3.out.ext hxx)
  have HS4 := Lib.hid (HS4.out.ext hxx)
  have HX := Lib.hid (Ext.trans HX.out hxx)
  clear hxn hxx
  go_wp2_with fail
  refine (has_v _ [(-5, 5)] (-1) _ (sp_lit (Ext.refl _) rfl (by decide) rfl rfl (by decide))).mono ?_
  rintro e W11 ⟨rfl, hxn⟩
  have hxx : Ext W10 W11 := Ext.trans (by (unfold Ext; repeat (first | exact Below.refl _ _ | assumption | refine Below.drew ?_ | refine below_drewN ?_ _ | refine Below.alloc ?_ (by first | exact Nat.le_refl _ | (simp; done) | (simp; omega) | omega) _ | refine Below.setCell ?_ (by first | exact Nat.le_refl _ | (simp; done) | (simp; omega) | omega) _))) hxn
  rw [show hasB [(-5, 5)] (-1) = false by decide]
  have HSa := Lib.hid (HSa.out.ext hxx)
  have HSb := Lib.hid (HSb.out.ext hxx)
  have HS1 := Lib.hid (HS1.out.ext hxx)
  have HS2 := Lib.hid (HS2.out.ext hxx)
  have HS3 := Lib.hid (HS3.out.ext hxx)
  have HS4 := Lib.hid (HS4.out.ext hxx)
  have HX := Lib.hid (Ext.trans HX.out hxx)
  clear hxn hxx
  go_wp2_with fail
  refine (size_v _ [(3, 5), (1, 3), (9, 9)] _ (HSa.out.ext (by (unfold Ext; repeat (first | exact Below.refl _ _ | assumption | refine Below.drew ?_ | refine below_drewN ?_ _ | refine Below.alloc ?_ (by first | exact Nat.le_refl _ | (simp; done) | (simp; omega) | omega) _ | refine Below.setCell ?_ (by first | exact Nat.le_refl _ | (simp; done) | (simp; omega) | omega) _)))) (by decide)).mono ?_
  rintro e W12 ⟨rfl, hi, hxn⟩
  have hxx : Ext W11 W12 := Ext.trans (by (unfold Ext; repeat (first | exact Below.refl _ _ | assumption | refine Below.drew ?_ | refine below_drewN ?_ _ | refine Below.alloc ?_ (by first | exact Nat.le_refl _ | (simp; done) | (simp; omega) | omega) _ | refine Below.setCell ?_ (by first | exact Nat.le_refl _ | (simp; done) | (simp; omega) | omega) _))) hxn
  rw [show ofL fOr [(3, 5), (1, 3), (9, 9)] [] = [(1, 5)] from is_lit hi.out (by simp [Ordered, Ord]) (fun t => by rw [Bool.eq_iff_iff]; simp [hasB, inB, fOr]; omega), show sizeL [(1, 5)] = 4 by decide]
  clear hi
  have HSa := Lib.hid (HSa.out.ext hxx)
  have HSb := Lib.hid (HSb.out.ext hxx)
  have HS1 := Lib.hid (HS1.out.ext hxx)
  have HS2 := Lib.hid (HS2.out.ext hxx)
  have HS3 := Lib.hid (HS3.out.ext hxx)
  have HS4 := Lib.hid (HS4.out.ext hxx)
  have HX := Lib.hid (Ext.trans HX.out hxx)
  clear hxn hxx
  go_wp2
  go_ret
  exact ⟨rfl, Ext.trans HX.out (by (unfold Ext; repeat (first | exact Below.refl _ _ | assumption | refine Below.drew ?_ | refine below_drewN ?_ _ | refine Below.alloc ?_ (by first | exact Nat.le_refl _ | (simp; done) | (simp; omega) | omega) _ | refine Below.setCell ?_ (by first | exact Nat.le_refl _ | (simp; done) | (simp; omega) | omega) _)))⟩
end Go.Proofs.Ytdpaagingfeoeaa.Sp
