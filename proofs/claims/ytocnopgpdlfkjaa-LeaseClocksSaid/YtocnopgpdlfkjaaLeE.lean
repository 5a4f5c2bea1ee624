/- Leases: Ask. -/
import Derived.Test.YtocnopgpdlfkjaaLeD
import Derived.Test.YtocnopgpdlfkjaaClockB0
import Derived.Test.YtocnopgpdlfkjaaOwn2
import Derived.OwnWalk
namespace Go.Proofs.Ytocnopgpdlfkjaa.Ls
open Go.RowKit Go.Proofs.Ytocnopgpdlfkjaa Go.Sort
set_option linter.unusedVariables false

def qu (q : Le) (u : Int) : Le := ⟨q.c, q.i, q.k, q.f, q.t, u, q.e⟩
def q0 (q : Le) : Le := qu q 0
def badA (q : Le) (many : Int) : Bool := !(oneB (q0 q) && decide (1 ≤ many ∧ many ≤ 64))
def askL (l : List Le) (now : Int) (q : Le) (many : Int) : List Le × Bool :=
  if badA q many = true then (l, false) else if againstL (overL l now) q ≠ [] then (overL l now, false) else if 64 ≤ (othersL (overL l now) q).length then (overL l now, false) else (othersL (overL l now) q ++ [qu q (now + Clk.wt (Clk.aa many))], true)
def WhoIs (l : List Le) (now : Int) (q : Le) (many : Int) (K : List Int) : Prop := if badA q many = true ∨ againstL (overL l now) q = [] then K = [] else Rising (cls (againstL (overL l now) q)) K
def RetAsk (l : List Le) (now : Int) (q : Le) (many : Int) (w : World) (e : Ending) (w' : World) : Prop :=
  (∃ v k K r, e = .returned (.tuple #[v, .bool r.2, k]) ∧ r = askL l now q many ∧ LLe.Sl w' v r.1 ∧ (Lay.int .i64).Sl w' k K ∧ Hid (WhoIs l now q many K)) ∧ Ext w w'
theorem box_set (w : World) (cs : Array Value) (t : TypeId) (j : Nat) (v : Value) : Ext w ((w.alloc (.cells cs t)).setCell ⟨w.heap.size, j, none⟩ v) := Below.setCell (Ext.alloc w _) (p := ⟨w.heap.size, j, none⟩) (Nat.le_refl _) v
theorem ask_bad {l : List Le} {now : Int} {q : Le} {many : Int} {w w' : World} {u : Value} (hb : badA q many = true) (hu : LLe.Sl w u l) (hx : Ext w w') : RetAsk l now q many w (.returned (.tuple #[u, .bool false, .slice none 0 0])) w' :=
  ⟨⟨u, _, [], (l, false), rfl, by unfold askL; rw [if_pos hb], hu.ext hx, Lay.Sl.nil _ _, Lib.hid (by unfold WhoIs; rw [if_pos (.inl hb)])⟩, hx⟩
set_option maxRecDepth 100000 in
set_option maxHeartbeats 4000000 in
theorem ask_v (u : Value) (l : List Le) (now : Int) (q : Le) (many : Int) (w : World) (hu : LLe.Sl w u l) (hn : l.length ≤ 1000) (hw : LeWf q) (hnow : 0 ≤ now ∧ now ≤ 1000000000000000) : Calls Try.prog 13 #[u, .int .i64 now, .agg #[.int .i64 q.c, .int .i64 q.i, .int .i64 q.k, .int .i64 q.f, .int .i64 q.t, .int .i64 q.u, .int .i64 q.e], .int .i64 many] w (RetAsk l now q many w) := by
  obtain ⟨i0, hi0, hzi0, hzi1, hzi2⟩ := info_parts info_le
  have HU := Lib.hid hu
  have HN := Lib.hid hn
  have HW := Lib.hid hw
  have HNOW := Lib.hid hnow
  obtain ⟨o, ho⟩ : ∃ o, oneB (q0 q) = o := ⟨_, rfl⟩
  have HO1 := Lib.hid ho
  obtain ⟨p, n, c, rfl, _⟩ := hu
  clear hn hw hnow ho
  cases o
  · go_enter Try.func13, Try.ntmps13
    go_wp2_with fail
    refine (one_any (q0 q) _).mono ?_
    rintro e w1 ⟨rfl, hx1⟩
    rw [HO1.out]
    have HX := Lib.hid (Ext.trans (Ext.alloc _ _) hx1)
    clear hx1
    go_wp2
    go_ret3
    exact ask_bad (by unfold badA; rw [HO1.out]; rfl) HU.out HX.out
  by_cases hm1 : many < 1
  · have dm1 : decide (many < 1) = true := decide_eq_true hm1
    have HM := Lib.hid hm1
    clear hm1
    go_enter Try.func13, Try.ntmps13
    go_wp2_with fail
    refine (one_any (q0 q) _).mono ?_
    rintro e w1 ⟨rfl, hx1⟩
    rw [HO1.out]
    have HX := Lib.hid (Ext.trans (Ext.alloc _ _) hx1)
    clear hx1
    go_wp2
    go_ret3
    exact ask_bad (by unfold badA; rw [HO1.out, decide_eq_false (fun h => absurd h.1 (by have := HM.out; omega))]; rfl) HU.out HX.out
  have dm1 : decide (many < 1) = false := decide_eq_false hm1
  by_cases hm2 : 64 < many
  · have dm2 : decide (64 < many) = true := decide_eq_true hm2
    have HM := Lib.hid hm2
    clear hm1 hm2
    go_enter Try.func13, Try.ntmps13
    go_wp2_with fail
    refine (one_any (q0 q) _).mono ?_
    rintro e w1 ⟨rfl, hx1⟩
    rw [HO1.out]
    have HX := Lib.hid (Ext.trans (Ext.alloc _ _) hx1)
    clear hx1
    go_wp2
    go_ret3
    exact ask_bad (by unfold badA; rw [HO1.out, decide_eq_false (fun h => absurd h.2 (by have := HM.out; omega))]; rfl) HU.out HX.out
  have dm2 : decide (64 < many) = false := decide_eq_false hm2
  have HB : Hid (badA q many = false) := Lib.hid (by unfold badA; rw [HO1.out, decide_eq_true ⟨by omega, by omega⟩]; rfl)
  have HMANY : Hid (1 ≤ many ∧ many ≤ 64) := Lib.hid ⟨by omega, by omega⟩
  clear hm1 hm2
  go_enter Try.func13, Try.ntmps13
  go_wp2_with fail
  refine (one_any (q0 q) _).mono ?_
  rintro e w1 ⟨rfl, hx1⟩
  rw [HO1.out]
  obtain ⟨b0, b1, b2, b3, b4, b5, b6⟩ := box_cells w w1 (q0 q) _ hx1
  have HHB1 := Lib.hid (heap_ext (heap_alloc_new _ _) hx1)
  have HX1 := Lib.hid (Ext.trans (Ext.alloc _ _) hx1)
  have HZ : Hid (w.heap.size < w1.heap.size) := Lib.hid (World.block_lt_of_cell? w1 _ b0)
  clear hx1
  have HC := Lib.hid (over_v _ l now w1 (HU.out.ext HX1.out) (by have := HN.out; omega))
  go_wp2_with fail
  refine HC.out.mono ?_
  rintro e w2 ⟨⟨v, rfl, hown⟩, hx⟩
  obtain ⟨L, hL⟩ : ∃ L, overL l now = L := ⟨_, rfl⟩
  rw [hL] at hown
  have HLL : Hid (overL l now = L ∧ L.length ≤ 1000) := Lib.hid ⟨hL, by rw [← hL]; exact Nat.le_trans (List.length_filter_le _ _) HN.out⟩
  obtain ⟨pL, cL, rfl, _⟩ := hown.opened
  obtain ⟨nL, hnL⟩ : ∃ nL, L.length = nL := ⟨_, rfl⟩
  rw [hnL] at hown ⊢
  have HSL := Lib.hid hown.sl
  have HX2 := Lib.hid (Ext.trans HX1.out hx)
  have c0 := hx.cell b0
  have c1 := hx.cell b1
  have c2 := hx.cell b2
  have c3 := hx.cell b3
  have c4 := hx.cell b4
  have c5 := hx.cell b5
  have c6 := hx.cell b6
  have HHB2 := Lib.hid (heap_ext HHB1.out hx)
  have HZ2 : Hid (w1.heap.size ≤ w2.heap.size) := Lib.hid hx.size
  clear hx b0 b1 b2 b3 b4 b5 b6 HC hown hL hnL
  have HC := Lib.hid (clashing_v _ L (q0 q) w2 HSL.out (by have := HLL.out.2; omega))
  go_wp2_with fail
  refine HC.out.mono ?_
  rintro e w3 ⟨⟨v, rfl, hown⟩, hx⟩
  obtain ⟨A, hA⟩ : ∃ A, againstL L (q0 q) = A := ⟨_, rfl⟩
  rw [hA] at hown
  have HA : Hid (againstL L q = A ∧ A.length ≤ 1000) := Lib.hid ⟨hA, by rw [← hA]; exact Nat.le_trans (List.length_filter_le _ _) HLL.out.2⟩
  obtain ⟨pA, cA, rfl, _⟩ := hown.opened
  obtain ⟨nA, hnA⟩ : ∃ nA, A.length = nA := ⟨_, rfl⟩
  have HNA := Lib.hid hnA
  rw [hnA] at hown ⊢
  have HSA := Lib.hid hown.sl
  have HX3 := Lib.hid (Ext.trans HX2.out hx)
  have HSL3 := Lib.hid (HSL.out.ext hx)
  have d0 := hx.cell c0
  have d1 := hx.cell c1
  have d2 := hx.cell c2
  have d3 := hx.cell c3
  have d4 := hx.cell c4
  have d5 := hx.cell c5
  have d6 := hx.cell c6
  have HHB3 := Lib.hid (heap_ext HHB2.out hx)
  have HZ3 : Hid (w2.heap.size ≤ w3.heap.size) := Lib.hid hx.size
  clear hx c0 c1 c2 c3 c4 c5 c6 HC hown hA hnA HSL
  by_cases h0 : 0 < nA
  · have dA : decide ((0 : Int) < (nA : Int)) = true := decide_eq_true (by omega)
    have HC := Lib.hid (clients_v _ A w3 HSA.out (by have := HA.out.2; omega) (by rw [HNA.out]; exact h0))
    have HNN := Lib.hid h0
    clear h0
    go_wp2_with fail
    refine HC.out.mono ?_
    rintro e w4 ⟨⟨k, K, rfl, hk, hr⟩, hx⟩
    have HXX := Lib.hid (Ext.trans HX3.out hx)
    have HS4 := Lib.hid (HSL3.out.ext hx)
    have HNE : Hid (againstL (overL l now) q ≠ []) := Lib.hid (by
      rw [HLL.out.1, HA.out.1]
      intro h
      have h1 := HNA.out
      rw [h] at h1
      have h2 := HNN.out
      simp at h1
      omega)
    have HK := Lib.hid hk
    obtain ⟨kp, kn, kc, rfl, _⟩ := hk
    clear hx
    go_wp2
    go_ret3
    exact ⟨⟨_, _, K, (L, false), rfl, by unfold askL; rw [if_neg (by rw [HB.out]; exact Bool.false_ne_true), if_pos HNE.out, HLL.out.1], HS4.out, HK.out, Lib.hid (by unfold WhoIs; rw [if_neg (by rw [HB.out]; exact fun h => h.elim Bool.false_ne_true HNE.out), HLL.out.1, HA.out.1]; exact hr.out)⟩, HXX.out⟩
  have HNE : Hid (againstL (overL l now) q = []) := Lib.hid (by
    rw [HLL.out.1, HA.out.1]
    exact List.eq_nil_of_length_eq_zero (by rw [HNA.out]; omega))
  obtain rfl : nA = 0 := by omega
  have HC := Lib.hid (keep_v 35 #[.pointer (some ⟨w.heap.size, 0, none⟩)] (fun x => !sameB x (q0 q)) _ L w3 HSL3.out (by have := HLL.out.2; omega) (enters_of Try.func35 (by kernel_rfl) rfl) (fun x W' hW _ => ask1_any x (q0 q) w.heap.size W' (hW.cell d0) (hW.cell d1) (hW.cell d2) (hW.cell d3) (hW.cell d4) (hW.cell d5) (hW.cell d6)))
  clear h0 HSA
  go_wp2_with fail
  (with_reducible refine HC.out.mono ?_)
  rintro e w4 ⟨⟨v, rfl, hown⟩, hx⟩
  obtain ⟨O, hO⟩ : ∃ O, (L.filter fun x => !sameB x (q0 q)) = O := ⟨_, rfl⟩
  rw [hO] at hown
  have HOO : Hid (othersL L q = O ∧ O.length ≤ 1000) := Lib.hid ⟨hO, by rw [← hO]; exact Nat.le_trans (List.length_filter_le _ _) HLL.out.2⟩
  obtain ⟨nO, hnO⟩ : ∃ nO, O.length = nO := ⟨_, rfl⟩
  have HNO := Lib.hid hnO
  obtain ⟨pO, cO, rfl, _⟩ := hown.opened
  rw [hnO] at hown ⊢
  have HO3 := Lib.hid hown
  have HX4 := Lib.hid (Ext.trans HX3.out hx)
  have HSL4 := Lib.hid (HSL3.out.ext hx)
  have e0 := hx.cell d0
  have e1 := hx.cell d1
  have e2 := hx.cell d2
  have e3 := hx.cell d3
  have e4 := hx.cell d4
  have e5 := hx.cell d5
  have e6 := hx.cell d6
  have HHB4 := Lib.hid (heap_ext HHB3.out hx)
  have HZ4 : Hid (w3.heap.size ≤ w4.heap.size) := Lib.hid hx.size
  clear hx d0 d1 d2 d3 d4 d5 d6 HC hown hO hnO HSL3
  by_cases h64 : 64 ≤ nO
  · have dO : decide ((64 : Int) ≤ (nO : Int)) = true := decide_eq_true (by omega)
    have H64 := Lib.hid h64
    clear h64
    go_wp2
    go_ret3
    exact ⟨⟨_, _, [], (L, false), rfl, by unfold askL; rw [if_neg (by rw [HB.out]; exact Bool.false_ne_true), if_neg (by rw [HNE.out]; exact fun h => h rfl), HLL.out.1, HOO.out.1, HNO.out, if_pos H64.out], HSL4.out, Lay.Sl.nil _ _, Lib.hid (by unfold WhoIs; rw [if_pos (.inr HNE.out)])⟩, HX4.out⟩
  have dO : decide ((64 : Int) ≤ (nO : Int)) = false := decide_eq_false (by omega)
  have H64 := Lib.hid h64
  clear h64 HSL4
  go_wp2_with fail
  refine (Clk.wait_any many _).mono ?_
  rintro e w6 ⟨rfl, hx⟩
  have b0 := hx.cell e0
  have b1 := hx.cell e1
  have b2 := hx.cell e2
  have b3 := hx.cell e3
  have b4 := hx.cell e4
  have b5 := hx.cell e5
  have b6 := hx.cell e6
  have HHB6 := Lib.hid (heap_ext HHB4.out hx)
  have HO := Lib.hid (HO3.out.ext hx)
  have HX6 := Lib.hid (Ext.trans HX4.out hx)
  have HZ7 : Hid (w4.heap.size ≤ w6.heap.size) := Lib.hid hx.size
  have HZ6 : Hid (w.heap.size < w6.heap.size) := Lib.hid (World.block_lt_of_cell? w6 _ b0)
  clear hx e0 e1 e2 e3 e4 e5 e6 HO3
  have hwt : 0 ≤ Clk.wt (Clk.aa many) ∧ Clk.wt (Clk.aa many) ≤ 100 := by
    have h1 := HMANY.out
    have h2 : Clk.aa many = many := by unfold Clk.aa; omega
    rw [h2]; unfold Clk.wt; split <;> omega
  have HWR : IntKind.i64.wrap (now + Clk.wt (Clk.aa many)) = now + Clk.wt (Clk.aa many) := IntWalk.i64_in _ (by have := HNOW.out; omega)
  have HW2 : Hid (LeWf (qu q (now + Clk.wt (Clk.aa many)))) := Lib.hid (by
    obtain ⟨a1, a2, a3, a4, a5, a6, a7⟩ := HW.out
    have := HNOW.out
    exact ⟨a1, a2, a3, a4, a5, (by simp [qu, Lit.wf, IntKind.min, IntKind.max, IntKind.signed, IntKind.bits]; omega), a7⟩)
  have HWT := Lib.hid hwt
  clear hwt
  have hfz : w6.frozen? ⟨w.heap.size, 5, none⟩ = false := frozen_of_row w6 _ 5 _ _ HHB6.out
  have HNE2 : Hid (Value.ownBlock (.slice pO nO cO) ≠ some w.heap.size) := Lib.hid (fun h => by
    have h1 := (HO.out.lt _ h).1
    have := HZ.out
    have := HZ2.out
    have := HZ3.out
    omega)
  have HOW : Hid (LLe.Own ((w6.setCell ⟨w.heap.size, 5, none⟩ (.int .i64 (now + Clk.wt (Clk.aa many)))).alloc (.cells #[.int .i64 (qu q (now + Clk.wt (Clk.aa many))).c, .int .i64 (qu q (now + Clk.wt (Clk.aa many))).i, .int .i64 (qu q (now + Clk.wt (Clk.aa many))).k, .int .i64 (qu q (now + Clk.wt (Clk.aa many))).f, .int .i64 (qu q (now + Clk.wt (Clk.aa many))).t, .int .i64 (qu q (now + Clk.wt (Clk.aa many))).u, .int .i64 (qu q (now + Clk.wt (Clk.aa many))).e] 26)) w3.heap.size 26 (.slice pO nO cO) O) := Lib.hid ((Lay.Own.kept plain_le HO.out (Lay.grown_set _ w.heap.size 5 _) HNE2.out).ext (Ext.alloc _ _))
  have HXW : Hid (Ext w ((w6.setCell ⟨w.heap.size, 5, none⟩ (.int .i64 (now + Clk.wt (Clk.aa many)))).alloc (.cells #[.int .i64 (qu q (now + Clk.wt (Clk.aa many))).c, .int .i64 (qu q (now + Clk.wt (Clk.aa many))).i, .int .i64 (qu q (now + Clk.wt (Clk.aa many))).k, .int .i64 (qu q (now + Clk.wt (Clk.aa many))).f, .int .i64 (qu q (now + Clk.wt (Clk.aa many))).t, .int .i64 (qu q (now + Clk.wt (Clk.aa many))).u, .int .i64 (qu q (now + Clk.wt (Clk.aa many))).e] 26))) := Lib.hid (Ext.trans (Below.setCell HX6.out (p := ⟨w.heap.size, 5, none⟩) (Nat.le_refl _) _) (Ext.alloc _ _))
  have HM63 : Hid (O.length + 1 ≤ maxLen) := Lib.hid (by have := HOO.out.2; unfold maxLen; omega)
  have HMB : Hid ((O.length + 1) * 56 ≤ 140737488355328) := Lib.hid (by have := HOO.out.2; omega)
  have HSZ : Hid (w3.heap.size ≤ ((w6.setCell ⟨w.heap.size, 5, none⟩ (.int .i64 (now + Clk.wt (Clk.aa many)))).alloc (.cells #[.int .i64 (qu q (now + Clk.wt (Clk.aa many))).c, .int .i64 (qu q (now + Clk.wt (Clk.aa many))).i, .int .i64 (qu q (now + Clk.wt (Clk.aa many))).k, .int .i64 (qu q (now + Clk.wt (Clk.aa many))).f, .int .i64 (qu q (now + Clk.wt (Clk.aa many))).t, .int .i64 (qu q (now + Clk.wt (Clk.aa many))).u, .int .i64 (qu q (now + Clk.wt (Clk.aa many))).e] 26)).heap.size) := Lib.hid (by have := HZ4.out; have := HZ7.out; simp; omega)
  have HWS : Hid (w.heap.size ≤ w3.heap.size) := Lib.hid (by have := HZ.out; have := HZ2.out; have := HZ3.out; omega)
  rw [← HNO.out] at HOW
  rw [← HNO.out]
  go_wp2_with (at_builtin; refine Lay.wpList_append (E := LLe) rfl (.tmp 51) (.tmp 53) 22 rfl w3.heap.size 26 i0 (.agg #[.int .i64 0, .int .i64 0, .int .i64 0, .int .i64 0, .int .i64 0, .int .i64 0, .int .i64 0]) 56 Try.underlying22 hi0 hzi0 hzi1 hzi2 rfl _ (O) rfl (HOW.out) (some ⟨w6.heap.size, 0, none⟩) 1 1 ([qu q (now + Clk.wt (Clk.aa many))]) rfl (fun _ => ⟨_, _, rfl⟩) (Nat.le_refl _) (plain_le.lit (Ext.refl _) (Lay.All.single ⟨rfl, HW2.out⟩) (by simp) rfl (by decide)) HM63.out HMB.out HSZ.out ?_; intro v2 w7 hown2 hg2; have X7 := Lib.hid (HOW.out.below HXW.out HWS.out hg2); have HO7 := Lib.hid hown2; clear hown2 hg2)
  go_ret3
  exact ⟨⟨_, _, [], (O ++ [qu q (now + Clk.wt (Clk.aa many))], true), rfl, by unfold askL; rw [if_neg (by rw [HB.out]; exact Bool.false_ne_true), if_neg (by rw [HNE.out]; exact fun h => h rfl), HLL.out.1, HOO.out.1, HNO.out, if_neg H64.out], HO7.out.sl, Lay.Sl.nil _ _, Lib.hid (by unfold WhoIs; rw [if_pos (.inr HNE.out)])⟩, X7.out⟩
end Go.Proofs.Ytocnopgpdlfkjaa.Ls
