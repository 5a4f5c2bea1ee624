/- Messages: the walk of WireBack. -/
import Derived.Test.YtifbmkcfgpfefaaWiO
namespace Go.Proofs.Ytifbmkcfgpfefaa.Wi
open Go.RowKit Go.Proofs.Ytifbmkcfgpfefaa
set_option linter.unusedVariables false

theorem send_1 {l : List Mg} {x : Mg} (h : l.length < 200) : sendS l x 1 = l ++ [x] := by
  unfold sendS; rw [if_neg (by omega), if_pos rfl]
theorem send_3 {l : List Mg} {x : Mg} (h : l.length < 199) : sendS l x 3 = l ++ [x, x] := by
  unfold sendS; rw [if_neg (by omega), if_neg (by decide), if_pos rfl, show min (200 - l.length) 2 = 2 by omega]; rfl
theorem take_1 {l : List Mg} {x : Mg} {n : Nat} (h : l.length = n) : takeS (l ++ [x]) (n : Int) = (l, x, true) := by
  subst h
  rw [take_yes (k := l.length) (x := x) (by simp)]
  simp
theorem take_31 {l : List Mg} {x : Mg} {n : Nat} (h : l.length = n) : takeS (l ++ [x, x]) (n : Int) = (l ++ [x], x, true) := by
  subst h
  rw [take_yes (k := l.length) (x := x) (by simp)]
  simp [List.drop_append]
theorem take_32 {l : List Mg} {x : Mg} {n : Nat} (h : l.length = n) : takeS (l ++ [x, x]) ((n : Int) + 1) = (l ++ [x], x, true) := by
  subst h
  rw [show ((l.length : Int) + 1) = ((l.length + 1 : Nat) : Int) by omega, take_yes (k := l.length + 1) (x := x) (by simp)]
  rw [show (l ++ [x, x]).drop (l.length + 1 + 1) = [] from List.drop_eq_nil_of_le (by simp), List.append_nil, show l ++ [x, x] = (l ++ [x]) ++ [x] by simp, show l.length + 1 = (l ++ [x]).length by simp, List.take_left]
set_option maxRecDepth 100000 in
set_option maxHeartbeats 16000000 in
theorem back_walk {cs : List Value} {x : Mg} {p : Option Addr} {n c : Nat} {l : List Mg} {w : World} (hl : LMg.Sl w (.slice p n c) l) (hd : LMg.R w cs x) : Calls Try.prog 6 #[.slice p n c, .agg cs.toArray] w fun e w' => e = .returned (.bool true) ∧ Ext w w' := by
  obtain ⟨p1, n1, c1, q1, m1, d1, rfl, hx⟩ := mg_cells hd
  have HM := Lib.hid hx
  have HL := Lib.hid hl
  have hln : l.length = n := (sl_parts hl).1.1
  have HLN := Lib.hid hln
  have HXA : Hid (Ext w (w.alloc (.cells #[.int .i64 x.a, .int .i64 x.b, .int .i64 x.k, .slice p1 n1 c1, .slice q1 m1 d1] 26))) := Lib.hid (Ext.alloc _ _)
  clear hl hd hx
  go_enter Try.func6, Try.ntmps6
  go_wp2_with fail
  refine (head_v _).mono ?_
  rintro e w2 ⟨rfl, hx2⟩
  have HX2 := Lib.hid hx2
  have HW2 := Lib.hid (Ext.trans HXA.out hx2)
  have HL2 := Lib.hid (HL.out.ext HW2.out)
  have HM2 := Lib.hid (HM.out.ext HW2.out)
  clear hx2
  obtain ⟨a0, a1, a2, a3, a4⟩ := box5 HX2.out
  go_wp2_with fail
  refine (great_any p n c l w2 (sl_row HL2.out)).mono ?_
  rintro e w3 ⟨⟨g, rfl, hg⟩, hw3⟩
  obtain rfl : w2 = w3 := hw3.symm
  cases g
  · have HS : Hid (Small l) := Lib.hid (hg.1 rfl)
    clear hg
    have hn220 : n ≤ 220 := by rw [← HLN.out]; exact HS.out.1
    go_wp2_with fail
    refine (great_any _ 1 1 [x] _ (mg_one _ (HM2.out.ext (Ext.alloc _ _)) (Ext.refl _))).mono ?_
    rintro e w4 ⟨⟨g2, rfl, hg2⟩, hw4⟩
    have HX4 : Hid (Ext w2 w4) := Lib.hid (by rw [hw4]; exact Ext.alloc _ _)
    clear hw4
    have HW4 := Lib.hid (Ext.trans HW2.out HX4.out)
    have HB4 := Lib.hid (Ext.trans HX2.out HX4.out)
    have HL4 := Lib.hid (HL.out.ext HW4.out)
    have HM4 := Lib.hid (HM.out.ext HW4.out)
    clear a0 a1 a2 a3 a4
    obtain ⟨a0, a1, a2, a3, a4⟩ := box5 HB4.out
    cases g2
    · clear hg2
      by_cases h190 : ¬ (190 : Int) < (n : Int)
      · have hn190 : n ≤ 190 := by omega
        have hw1 : IntKind.i64.wrap ((n : Int) + 1) = (n : Int) + 1 := IntWalk.i64_in _ (by omega)
        have T1 := Lib.hid (send_1 (l := l) (x := x) (by have := HLN.out; omega))
        have T3 := Lib.hid (send_3 (l := l) (x := x) (by have := HLN.out; omega))
        go_wp2_with fail
        refine (send_v p n c l x p1 n1 c1 q1 m1 d1 1 w4 HL4.out HM4.out (by omega)).mono ?_
        rintro e w5 ⟨⟨v5, rfl, hs5⟩, hx5⟩
        rw [T1.out] at hs5
        obtain ⟨p5, n5, c5, rfl, hn5⟩ := sl_form hs5
        have hn5' : n5 ≤ 200 := by rw [hn5]; simp; omega
        have HS5 := Lib.hid hs5
        have HX5 := Lib.hid hx5
        clear hs5 hx5 hn5
        have HW5 := Lib.hid (Ext.trans HW4.out HX5.out)
        clear a0 a1 a2 a3 a4
        go_wp2_with fail
        refine (take_v p5 n5 c5 _ (n : Int) _ HS5.out (by omega)).mono ?_
        rintro e v6 ⟨⟨pb6, nb6, cb6, qb6, mb6, db6, u6, rfl, hs6, hm6⟩, hx6⟩
        rw [take_1 HLN.out] at hs6 hm6 ⊢
        dsimp only at hs6 hm6 ⊢
        obtain ⟨pt6, nt6, ct6, rfl, hn6⟩ := sl_form hs6
        have HS6 := Lib.hid hs6
        have HM6 := Lib.hid hm6
        have HX6 : Hid (Ext w5 (v6.alloc (.cells #[.int .i64 x.a, .int .i64 x.b, .int .i64 x.k, .slice pb6 nb6 cb6, .slice qb6 mb6 db6] 26))) := Lib.hid (Ext.trans hx6 (Ext.alloc _ _))
        clear hs6 hm6 hx6 hn6
        have HW6 := Lib.hid (Ext.trans HW5.out HX6.out)
        have HB6 := Lib.hid (Ext.trans (Ext.trans HB4.out HX5.out) HX6.out)
        obtain ⟨a0, a1, a2, a3, a4⟩ := box5 HB6.out
        go_wp2_with fail
        refine (send_v p n c l x p1 n1 c1 q1 m1 d1 3 _ (HL.out.ext HW6.out) (HM.out.ext HW6.out) (by omega)).mono ?_
        rintro e w7 ⟨⟨v7, rfl, hs7⟩, hx7⟩
        rw [T3.out] at hs7
        obtain ⟨p7, n7, c7, rfl, hn7⟩ := sl_form hs7
        have hn7' : n7 ≤ 200 := by rw [hn7]; simp; omega
        have HS7 := Lib.hid hs7
        have HX7 := Lib.hid hx7
        clear hs7 hx7 hn7 a0 a1 a2 a3 a4
        go_wp2_with fail
        refine (take_v p7 n7 c7 _ (n : Int) _ HS7.out (by omega)).mono ?_
        rintro e v8 ⟨⟨pb8, nb8, cb8, qb8, mb8, db8, u8, rfl, hs8, hm8⟩, hx8⟩
        rw [take_31 HLN.out] at hs8 hm8 ⊢
        dsimp only at hs8 hm8 ⊢
        obtain ⟨pt8, nt8, ct8, rfl, hn8⟩ := sl_form hs8
        have HS8 := Lib.hid hs8
        have HM8 := Lib.hid hm8
        have HX8 : Hid (Ext w7 (v8.alloc (.cells #[.int .i64 x.a, .int .i64 x.b, .int .i64 x.k, .slice pb8 nb8 cb8, .slice qb8 mb8 db8] 26))) := Lib.hid (Ext.trans hx8 (Ext.alloc _ _))
        clear hs8 hm8 hx8 hn8
        go_wp2_with fail
        refine (take_v p7 n7 c7 _ ((n : Int) + 1) _ (HS7.out.ext HX8.out) (by omega)).mono ?_
        rintro e v9 ⟨⟨pb9, nb9, cb9, qb9, mb9, db9, u9, rfl, hs9, hm9⟩, hx9⟩
        rw [take_32 HLN.out] at hs9 hm9 ⊢
        dsimp only at hs9 hm9 ⊢
        obtain ⟨pt9, nt9, ct9, rfl, hn9⟩ := sl_form hs9
        have HS9 := Lib.hid hs9
        have HM9 := Lib.hid hm9
        have HX9 := Lib.hid hx9
        clear hs9 hm9 hx9 hn9
        obtain ⟨W9, hW9⟩ : ∃ W9, (v9.alloc (.cells #[.int .i64 x.a, .int .i64 x.b, .int .i64 x.k, .slice pb9 nb9 cb9, .slice qb9 mb9 db9] 26)) = W9 := ⟨_, rfl⟩
        have HB9 : Hid (Ext (v9.alloc (.cells #[.int .i64 x.a, .int .i64 x.b, .int .i64 x.k, .slice pb9 nb9 cb9, .slice qb9 mb9 db9] 26)) W9) := Lib.hid (by rw [hW9]; exact Ext.refl _)
        have K9 : Hid (Ext v9 W9) := Lib.hid (Ext.trans (Ext.alloc _ _) HB9.out)
        have KB8 : Hid (Ext (v8.alloc (.cells #[.int .i64 x.a, .int .i64 x.b, .int .i64 x.k, .slice pb8 nb8 cb8, .slice qb8 mb8 db8] 26)) W9) := Lib.hid (Ext.trans HX9.out K9.out)
        have K8 : Hid (Ext v8 W9) := Lib.hid (Ext.trans (Ext.alloc _ _) KB8.out)
        have K7 : Hid (Ext w7 W9) := Lib.hid (Ext.trans HX8.out KB8.out)
        have KB6 : Hid (Ext (v6.alloc (.cells #[.int .i64 x.a, .int .i64 x.b, .int .i64 x.k, .slice pb6 nb6 cb6, .slice qb6 mb6 db6] 26)) W9) := Lib.hid (Ext.trans HX7.out K7.out)
        have K6 : Hid (Ext v6 W9) := Lib.hid (Ext.trans (Ext.alloc _ _) KB6.out)
        have K5 : Hid (Ext w5 W9) := Lib.hid (Ext.trans HX6.out KB6.out)
        have K : Hid (Ext w W9) := Lib.hid (Ext.trans HW5.out K5.out)
        have KA : Hid (Ext (w.alloc (.cells #[.int .i64 x.a, .int .i64 x.b, .int .i64 x.k, .slice p1 n1 c1, .slice q1 m1 d1] 26)) W9) := Lib.hid (Ext.trans HB6.out (Ext.trans HX7.out K7.out))
        obtain ⟨a0, a1, a2, a3, a4⟩ := box5 KA.out
        obtain ⟨b0, b1, b2, b3, b4⟩ := box5 KB6.out
        obtain ⟨c0, c1, c2, c3, c4⟩ := box5 KB8.out
        obtain ⟨d0, d1, d2, d3, d4⟩ := box5 HB9.out
        go_wp2_with fail
        try rw [hW9]
        clear hW9
        refine (rsame1_t (x := x) (y := x) (HM6.out.ext K6.out) (HM.out.ext K.out) rfl).mono ?_
        rintro e y0 ⟨rfl, hy0⟩
        have Y0 : Hid (Ext W9 y0) := Lib.hid hy0
        clear hy0
        clear a0 a1 a2 a3 a4 b0 b1 b2 b3 b4 c0 c1 c2 c3 c4 d0 d1 d2 d3 d4
        obtain ⟨a0, a1, a2, a3, a4⟩ := box5 (Ext.trans KA.out Y0.out)
        obtain ⟨b0, b1, b2, b3, b4⟩ := box5 (Ext.trans KB6.out Y0.out)
        obtain ⟨c0, c1, c2, c3, c4⟩ := box5 (Ext.trans KB8.out Y0.out)
        obtain ⟨d0, d1, d2, d3, d4⟩ := box5 (Ext.trans HB9.out Y0.out)
        go_wp2_with fail
        refine (rsame_t (HS6.out.ext (Ext.trans K6.out Y0.out)) (HL.out.ext (Ext.trans K.out Y0.out)) rfl).mono ?_
        rintro e y1 ⟨rfl, hy1⟩
        have Y1 : Hid (Ext W9 y1) := Lib.hid (Ext.trans Y0.out hy1)
        clear hy1
        clear a0 a1 a2 a3 a4 b0 b1 b2 b3 b4 c0 c1 c2 c3 c4 d0 d1 d2 d3 d4
        obtain ⟨a0, a1, a2, a3, a4⟩ := box5 (Ext.trans KA.out Y1.out)
        obtain ⟨b0, b1, b2, b3, b4⟩ := box5 (Ext.trans KB6.out Y1.out)
        obtain ⟨c0, c1, c2, c3, c4⟩ := box5 (Ext.trans KB8.out Y1.out)
        obtain ⟨d0, d1, d2, d3, d4⟩ := box5 (Ext.trans HB9.out Y1.out)
        go_wp2_with fail
        refine (rsame1_t (x := x) (y := x) (HM8.out.ext (Ext.trans K8.out Y1.out)) (HM.out.ext (Ext.trans K.out Y1.out)) rfl).mono ?_
        rintro e y2 ⟨rfl, hy2⟩
        have Y2 : Hid (Ext W9 y2) := Lib.hid (Ext.trans Y1.out hy2)
        clear hy2
        clear a0 a1 a2 a3 a4 b0 b1 b2 b3 b4 c0 c1 c2 c3 c4 d0 d1 d2 d3 d4
        obtain ⟨a0, a1, a2, a3, a4⟩ := box5 (Ext.trans KA.out Y2.out)
        obtain ⟨b0, b1, b2, b3, b4⟩ := box5 (Ext.trans KB6.out Y2.out)
        obtain ⟨c0, c1, c2, c3, c4⟩ := box5 (Ext.trans KB8.out Y2.out)
        obtain ⟨d0, d1, d2, d3, d4⟩ := box5 (Ext.trans HB9.out Y2.out)
        go_wp2_with fail
        refine (rsame1_t (x := x) (y := x) (HM9.out.ext (Ext.trans K9.out Y2.out)) (HM.out.ext (Ext.trans K.out Y2.out)) rfl).mono ?_
        rintro e y3 ⟨rfl, hy3⟩
        have Y3 : Hid (Ext W9 y3) := Lib.hid (Ext.trans Y2.out hy3)
        clear hy3
        clear a0 a1 a2 a3 a4 b0 b1 b2 b3 b4 c0 c1 c2 c3 c4 d0 d1 d2 d3 d4
        obtain ⟨a0, a1, a2, a3, a4⟩ := box5 (Ext.trans KA.out Y3.out)
        obtain ⟨b0, b1, b2, b3, b4⟩ := box5 (Ext.trans KB6.out Y3.out)
        obtain ⟨c0, c1, c2, c3, c4⟩ := box5 (Ext.trans KB8.out Y3.out)
        obtain ⟨d0, d1, d2, d3, d4⟩ := box5 (Ext.trans HB9.out Y3.out)
        go_wp2_with fail
        refine (rsame_t (HS8.out.ext (Ext.trans K8.out Y3.out)) (HS5.out.ext (Ext.trans K5.out Y3.out)) rfl).mono ?_
        rintro e y4 ⟨rfl, hy4⟩
        have Y4 : Hid (Ext W9 y4) := Lib.hid (Ext.trans Y3.out hy4)
        clear hy4
        clear a0 a1 a2 a3 a4 b0 b1 b2 b3 b4 c0 c1 c2 c3 c4 d0 d1 d2 d3 d4
        obtain ⟨a0, a1, a2, a3, a4⟩ := box5 (Ext.trans KA.out Y4.out)
        obtain ⟨b0, b1, b2, b3, b4⟩ := box5 (Ext.trans KB6.out Y4.out)
        obtain ⟨c0, c1, c2, c3, c4⟩ := box5 (Ext.trans KB8.out Y4.out)
        obtain ⟨d0, d1, d2, d3, d4⟩ := box5 (Ext.trans HB9.out Y4.out)
        go_wp2_with fail
        refine (rsame_t (HS9.out.ext (Ext.trans K9.out Y4.out)) (HS5.out.ext (Ext.trans K5.out Y4.out)) rfl).mono ?_
        rintro e y5 ⟨rfl, hy5⟩
        have Y5 : Hid (Ext W9 y5) := Lib.hid (Ext.trans Y4.out hy5)
        clear hy5
        clear a0 a1 a2 a3 a4 b0 b1 b2 b3 b4 c0 c1 c2 c3 c4 d0 d1 d2 d3 d4
        obtain ⟨a0, a1, a2, a3, a4⟩ := box5 (Ext.trans KA.out Y5.out)
        obtain ⟨b0, b1, b2, b3, b4⟩ := box5 (Ext.trans KB6.out Y5.out)
        obtain ⟨c0, c1, c2, c3, c4⟩ := box5 (Ext.trans KB8.out Y5.out)
        obtain ⟨d0, d1, d2, d3, d4⟩ := box5 (Ext.trans HB9.out Y5.out)
        go_wp2
        go_ret
        exact ⟨rfl, Ext.trans K.out Y5.out⟩
      · have h190 : (190 : Int) < (n : Int) := by omega
        go_wp2
        go_ret
        exact ⟨rfl, HW4.out⟩
    · clear hg2
      go_wp2
      go_ret
      exact ⟨rfl, HW4.out⟩
  · clear hg
    go_wp2
    go_ret
    exact ⟨rfl, HW2.out⟩
end Go.Proofs.Ytifbmkcfgpfefaa.Wi
