/- Leases: whose are wanted back. -/
import Derived.Test.YtocnopgpdlfkjaaLeN
import Derived.Lib.MinMax
import Derived.RegionTactic
import Derived.Deep.RegionHeld3
namespace Go.Proofs.Ytocnopgpdlfkjaa.Ls
open Go.RowKit Go.Proofs.Ytocnopgpdlfkjaa Go.Sort
set_option linter.unusedVariables false

def backs (L : List Le) (i : Int) (K : List Int) : List Le := K.foldl (fun l c => backL l c i) L
theorem backs_snoc (L : List Le) (i : Int) (K : List Int) (j : Nat) (c : Int) (h : K[j]? = some c) : backs L i (K.take (j + 1)) = backL (backs L i (K.take j)) c i := by
  unfold backs; rw [List.take_add_one, h]; simp
theorem backs_mem (i : Int) : ∀ (K : List Int) (L : List Le) (x : Le), x ∈ backs L i K → x ∈ L ∧ ∀ c ∈ K, ¬ (x.c = c ∧ x.i = i)
  | [], L, x, h => ⟨h, by simp⟩
  | c :: K, L, x, h => by
    obtain ⟨h1, h2⟩ := backs_mem i K (backL L c i) x h
    obtain ⟨h3, h4⟩ := List.mem_filter.1 h1
    refine ⟨h3, fun d hd => ?_⟩
    rcases List.mem_cons.1 hd with rfl | hd
    · intro ⟨e1, e2⟩; simp [e1, e2] at h4
    · exact h2 d hd
theorem backs_inv {T : Int} (i : Int) : ∀ (K : List Int) (L : List Le), Inv L T → Inv (backs L i K) T ∧ (backs L i K).length ≤ L.length
  | [], L, h => ⟨h, Nat.le_refl _⟩
  | c :: K, L, h => by
    obtain ⟨h1, h2⟩ := backs_inv i K (backL L c i) (h.sub _)
    exact ⟨h1, Nat.le_trans h2 (List.length_filter_le _ _)⟩
/-- what the law asks of the mathematics -/
theorem ask_some {L : List Le} {T m : Int} {q : Le} (ho : oneB (q0 q) = true) (hm : 1 ≤ m ∧ m ≤ 64) (hL : L.length ≤ 40) (h : againstL (overL L T) q = []) : askL L T q m = (othersL (overL L T) q ++ [qu q (T + Clk.wt (Clk.aa m))], true) := by
  have e1 : badA q m = false := by unfold badA; rw [ho, decide_eq_true hm]; rfl
  have h1 : (overL L T).length ≤ L.length := List.length_filter_le _ _
  have h2 : (othersL (overL L T) q).length ≤ (overL L T).length := List.length_filter_le _ _
  unfold askL
  rw [e1, if_neg Bool.false_ne_true, h, if_neg (fun h => h rfl), if_neg (by omega)]
theorem ask_none {L : List Le} {T m : Int} {q : Le} (ho : oneB (q0 q) = true) (hm : 1 ≤ m ∧ m ≤ 64) (h : againstL (overL L T) q ≠ []) : askL L T q m = (overL L T, false) := by
  have e1 : badA q m = false := by unfold badA; rw [ho, decide_eq_true hm]; rfl
  unfold askL
  rw [e1, if_neg Bool.false_ne_true, if_pos h]
theorem who_some {L : List Le} {T m : Int} {q : Le} {K : List Int} (h : againstL (overL L T) q = []) (hk : WhoIs L T q m K) : K = [] := by
  unfold WhoIs at hk; rwa [if_pos (.inr h)] at hk
theorem who_is {L : List Le} {T m : Int} {q : Le} {K : List Int} (hI : Inv L T) (hq : oneB q = true) (ho : oneB (q0 q) = true) (hm : 1 ≤ m ∧ m ≤ 64) (hk : WhoIs L T q m K) : K = whoseL (overL L T) q 16 := by
  have e1 : badA q m = false := by unfold badA; rw [ho, decide_eq_true hm]; rfl
  by_cases h : againstL (overL L T) q = []
  · rw [who_some h hk]; exact (whose_none (L := overL L T) (hI.sub _).one hq h).symm
  · unfold WhoIs at hk
    rw [e1, if_neg (by rintro (h1 | h1); cases h1; exact h h1)] at hk
    exact whose_is (hI.sub _).one hq hk
theorem who_ne {L : List Le} {T m : Int} {q : Le} {K : List Int} (ho : oneB (q0 q) = true) (hm : 1 ≤ m ∧ m ≤ 64) (h : againstL (overL L T) q ≠ []) (hk : WhoIs L T q m K) : Rising (cls (againstL (overL L T) q)) K ∧ 0 < K.length := by
  have e1 : badA q m = false := by unfold badA; rw [ho, decide_eq_true hm]; rfl
  unfold WhoIs at hk
  rw [e1, if_neg (by rintro (h1 | h1); cases h1; exact h h1)] at hk
  refine ⟨hk, ?_⟩
  cases K with
  | nil =>
    exfalso
    cases hA : againstL (overL L T) q with
    | nil => exact h hA
    | cons x A =>
      have := (hk.2.1 x.c).2 (by rw [hA]; simp [cls])
      simp at this
  | cons _ _ => simp
theorem over_sub {L L2 : List Le} {T : Int} (h : ∀ x ∈ L2, x ∈ overL L T) : overL L2 T = L2 := by
  unfold overL
  rw [List.filter_eq_self]
  intro x hx
  exact (List.mem_filter.1 (h x hx)).2
/-- all of theirs given back: nothing stands against it -/
theorem backs_free {L : List Le} {T m : Int} {q : Le} {K : List Int} (hI : Inv L T) (ho : oneB (q0 q) = true) (hm : 1 ≤ m ∧ m ≤ 64) (hk : WhoIs L T q m K) : againstL (overL (backs (overL L T) q.i K) T) q = [] := by
  rw [over_sub (L := L) (fun x hx => (backs_mem _ _ _ _ hx).1)]
  rw [against_nil]
  intro y hy
  obtain ⟨h1, h2⟩ := backs_mem _ _ _ _ hy
  cases hc : clashB y q with
  | false => rfl
  | true =>
    exfalso
    have hyA : y ∈ againstL (overL L T) q := List.mem_filter.2 ⟨h1, hc⟩
    have hne : againstL (overL L T) q ≠ [] := fun e => by rw [e] at hyA; simp at hyA
    have hK := (who_ne ho hm hne hk).1
    have hcc := of_decide_eq_true hc
    exact h2 y.c ((hK.2.1 y.c).2 (List.mem_map.2 ⟨y, hyA, rfl⟩)) ⟨rfl, hcc.2.1⟩
def R1 (w : World) (LO : List Le) (ino : Int) (K : List Int) (m : Nat) (v i : Value) (wr : World) : Prop := ∃ j : Nat, i = .int .i64 j ∧ j ≤ m ∧ LLe.Sl wr v (backs LO ino (K.take j)) ∧ Ext w wr
def R2 (w : World) (L : List Le) (T : Int) (m : Nat) (t i : Value) (wr : World) : Prop := ∃ (j : Nat) (U : Int), i = .int .i64 j ∧ j ≤ m ∧ t = .int .i64 U ∧ Hid (T ≤ U ∧ U ≤ T + 66 ∧ ∀ x ∈ L.take j, x.u ≤ U) ∧ Ext w wr
theorem over_last {L : List Le} {U : Int} (h : ∀ x ∈ L, x.u ≤ U) : overL L U = [] := by
  unfold overL
  rw [List.filter_eq_nil_iff]
  intro x hx
  have := h x hx
  simp; omega

set_option maxRecDepth 100000 in
set_option maxHeartbeats 4000000 in
theorem recalls_walk {p : Option Addr} {n c : Nat} {l : List Stp} {w : World} (hr : LStp.Row w p n l) (q : Le) (hw : LeWf q) (long : Int) : Calls Try.prog 5 #[.slice p n c, .agg #[.int .i64 q.c, .int .i64 q.i, .int .i64 q.k, .int .i64 q.f, .int .i64 q.t, .int .i64 q.u, .int .i64 q.e], .int .i64 long] w fun e w' => e = .returned (.bool true) ∧ Ext w w' := by
  have HP := Lib.hid hr
  have HW : Hid (LeWf (q0 q)) := Lib.hid ⟨hw.1, hw.2.1, hw.2.2.1, hw.2.2.2.1, hw.2.2.2.2.1, (by decide : (Lit.int .i64 0).wf = true), hw.2.2.2.2.2.2⟩
  clear hr hw
  go_enter Try.func5, Try.ntmps5
  go_wp2_with fail
  refine (head_v _).mono ?_
  rintro e w1 ⟨rfl, hx⟩
  have HHB := Lib.hid (heap_ext (heap_alloc_new _ _) hx)
  have HX1 := Lib.hid (Ext.trans (Ext.alloc _ _) hx)
  have hfz : w1.frozen? ⟨w.heap.size, 5, none⟩ = false := frozen_of_row w1 _ 5 _ _ HHB.out
  have hcl : w1.cell? ⟨w.heap.size, 5, none⟩ = some (.int .i64 q.u) := cell_of_row _ _ 5 _ _ _ HHB.out
  clear hx
  go_wp2_with fail
  obtain ⟨w2, hw2⟩ : ∃ w2, w1.setCell ⟨w.heap.size, 5, none⟩ (.int .i64 0) = w2 := ⟨_, rfl⟩
  rw [hw2]
  have HX2 : Hid (Ext w w2) := Lib.hid (hw2 ▸ Below.setCell HX1.out (p := ⟨w.heap.size, 5, none⟩) (Nat.le_refl _) _)
  have HHB2 : Hid (w2.heap[w.heap.size]? = some (.cells #[.int .i64 (q0 q).c, .int .i64 (q0 q).i, .int .i64 (q0 q).k, .int .i64 (q0 q).f, .int .i64 (q0 q).t, .int .i64 (q0 q).u, .int .i64 (q0 q).e] 26)) := Lib.hid (by rw [← hw2, heap_setCell_same _ _ _ _ _ _ HHB.out]; rfl)
  have b0 : w2.cell? ⟨w.heap.size, 0, none⟩ = some (.int .i64 (q0 q).c) := cell_of_row _ _ 0 _ _ _ HHB2.out
  have b1 : w2.cell? ⟨w.heap.size, 1, none⟩ = some (.int .i64 (q0 q).i) := cell_of_row _ _ 1 _ _ _ HHB2.out
  have b2 : w2.cell? ⟨w.heap.size, 2, none⟩ = some (.int .i64 (q0 q).k) := cell_of_row _ _ 2 _ _ _ HHB2.out
  have b3 : w2.cell? ⟨w.heap.size, 3, none⟩ = some (.int .i64 (q0 q).f) := cell_of_row _ _ 3 _ _ _ HHB2.out
  have b4 : w2.cell? ⟨w.heap.size, 4, none⟩ = some (.int .i64 (q0 q).t) := cell_of_row _ _ 4 _ _ _ HHB2.out
  have b5 : w2.cell? ⟨w.heap.size, 5, none⟩ = some (.int .i64 (q0 q).u) := cell_of_row _ _ 5 _ _ _ HHB2.out
  have b6 : w2.cell? ⟨w.heap.size, 6, none⟩ = some (.int .i64 (q0 q).e) := cell_of_row _ _ 6 _ _ _ HHB2.out
  clear hw2 hfz hcl
  refine (table_any _ _ _ l _ (HP.out.ext HX2.out)).mono ?_
  rintro e w3 ⟨⟨v, rfl, hs⟩, hx⟩
  have HI := Lib.hid (inv_tab l)
  have HB : Hid ((tabL l).1.length ≤ 40 ∧ 0 ≤ (tabL l).2 ∧ (tabL l).2 ≤ 40000) := Lib.hid (by
    have h1 := tab_bd l
    refine ⟨?_, h1.2⟩
    unfold tabL
    split
    · have := runT_bd l; omega
    · simp)
  obtain ⟨L, T, hLT⟩ : ∃ L T, tabL l = (L, T) := ⟨_, _, rfl⟩
  rw [hLT] at hs HI HB ⊢
  simp only at hs
  have HS3 := Lib.hid hs
  obtain ⟨pL, nL, cL, rfl, hrow, _⟩ := hs
  have HLN : Hid (L.length = nL) := Lib.hid hrow.1
  have hn63 := hrow.2.1
  obtain ⟨is, his⟩ : ∃ is, decide (l.length ≤ 40) = is := ⟨_, rfl⟩
  rw [his]
  clear his hLT hrow
  replace b0 := hx.cell b0
  replace b1 := hx.cell b1
  replace b2 := hx.cell b2
  replace b3 := hx.cell b3
  replace b4 := hx.cell b4
  replace b5 := hx.cell b5
  replace b6 := hx.cell b6
  have HX3 := Lib.hid (Ext.trans HX2.out hx)
  clear hx
  cases is
  · go_wp2
    go_ret
    exact ⟨rfl, HX3.out⟩
  obtain ⟨o, ho⟩ : ∃ o, oneB (q0 q) = o := ⟨_, rfl⟩
  have HO := Lib.hid ho
  clear ho
  go_wp2_with fail
  refine (rone_any (q0 q) _).mono ?_
  rintro e w4 ⟨rfl, hx⟩
  rw [HO.out]
  have HS4 := Lib.hid (HS3.out.ext hx)
  replace b0 := hx.cell b0
  replace b1 := hx.cell b1
  replace b2 := hx.cell b2
  replace b3 := hx.cell b3
  replace b4 := hx.cell b4
  replace b5 := hx.cell b5
  replace b6 := hx.cell b6
  have HX4 := Lib.hid (Ext.trans HX3.out hx)
  clear hx
  cases o
  · go_wp2
    go_ret
    exact ⟨rfl, HX4.out⟩
  by_cases hm1 : long < 1
  · have dm1 : decide (long < 1) = true := decide_eq_true hm1
    go_wp2
    go_ret
    exact ⟨rfl, HX4.out⟩
  have dm1 : decide (long < 1) = false := decide_eq_false hm1
  by_cases hm2 : 64 < long
  · have dm2 : decide (64 < long) = true := decide_eq_true hm2
    go_wp2
    go_ret
    exact ⟨rfl, HX4.out⟩
  have dm2 : decide (64 < long) = false := decide_eq_false hm2
  have HM : Hid (1 ≤ long ∧ long ≤ 64) := Lib.hid ⟨by omega, by omega⟩
  clear hm1 hm2
  have HO0 : Hid (oneB (q0 (q0 q)) = true) := HO
  go_wp2_with fail
  refine (ask_v _ L T (q0 q) long _ HS4.out (by have := HB.out; omega) HW.out (by have := HB.out; omega)).mono ?_
  rintro e w5 ⟨⟨v, kk, K, r, rfl, hr, hs, hk, hwho⟩, hx⟩
  have HWHO := Lib.hid hwho.out
  have HR := Lib.hid hr
  have HK5 := Lib.hid hk
  have HV5 := Lib.hid hs
  obtain ⟨pr, nr, cr, rfl, _⟩ := hs
  obtain ⟨pk, nk, ck, rfl, hkr, _⟩ := hk
  have HKN : Hid (K.length = nk) := Lib.hid hkr.1
  have hk63 := hkr.2.1
  have HS5 := Lib.hid (HS4.out.ext hx)
  clear hr hkr hwho
  replace b0 := hx.cell b0
  replace b1 := hx.cell b1
  replace b2 := hx.cell b2
  replace b3 := hx.cell b3
  replace b4 := hx.cell b4
  replace b5 := hx.cell b5
  replace b6 := hx.cell b6
  have HX5 := Lib.hid (Ext.trans HX4.out hx)
  clear hx
  obtain ⟨g, hg⟩ : ∃ g, r.2 = g := ⟨_, rfl⟩
  have HGG := Lib.hid hg
  rw [hg]
  clear hg
  go_wp2_with fail
  refine (over_v _ L T _ HS5.out (by have := HB.out; omega)).mono ?_
  rintro e w6 ⟨⟨v, rfl, hown⟩, hx⟩
  have HLO6 := Lib.hid hown.sl
  obtain ⟨po, co, rfl, _⟩ := hown.opened
  obtain ⟨no, hno⟩ : ∃ no, (overL L T).length = no := ⟨_, rfl⟩
  rw [hno] at HLO6 ⊢
  have HS6 := Lib.hid (HS5.out.ext hx)
  have HV6 := Lib.hid (HV5.out.ext hx)
  have HK6 := Lib.hid (HK5.out.ext hx)
  clear hown hno
  replace b0 := hx.cell b0
  replace b1 := hx.cell b1
  replace b2 := hx.cell b2
  replace b3 := hx.cell b3
  replace b4 := hx.cell b4
  replace b5 := hx.cell b5
  replace b6 := hx.cell b6
  have HX6 := Lib.hid (Ext.trans HX5.out hx)
  clear hx
  go_wp2_with fail
  refine (whose_v _ (overL L T) (q0 q) _ HLO6.out).mono ?_
  rintro e w7 ⟨⟨v, rfl, hs⟩, hx⟩
  rw [← who_is HI.out HO.out HO0.out HM.out HWHO.out] at hs
  have HWS7 := Lib.hid hs
  obtain ⟨pw, nw, cw, rfl, hwr, _⟩ := hs
  have HS7 := Lib.hid (HS6.out.ext hx)
  have HV7 := Lib.hid (HV6.out.ext hx)
  have HK7 := Lib.hid (HK6.out.ext hx)
  have HLO7 := Lib.hid (HLO6.out.ext hx)
  clear hwr
  replace b0 := hx.cell b0
  replace b1 := hx.cell b1
  replace b2 := hx.cell b2
  replace b3 := hx.cell b3
  replace b4 := hx.cell b4
  replace b5 := hx.cell b5
  replace b6 := hx.cell b6
  have HX7 := Lib.hid (Ext.trans HX6.out hx)
  clear hx
  go_wp2_with fail
  refine (rints_any pk pw nk ck nw cw K K _ (sl_row HK7.out).ints.1 (sl_row HWS7.out).ints.1).mono ?_
  rintro e w8 ⟨rfl, hx⟩
  rw [decide_eq_true (rfl : K = K)]
  have HS8 := Lib.hid (HS7.out.ext hx)
  have HV8 := Lib.hid (HV7.out.ext hx)
  have HK8 := Lib.hid (HK7.out.ext hx)
  have HLO8 := Lib.hid (HLO7.out.ext hx)
  replace b0 := hx.cell b0
  replace b1 := hx.cell b1
  replace b2 := hx.cell b2
  replace b3 := hx.cell b3
  replace b4 := hx.cell b4
  replace b5 := hx.cell b5
  replace b6 := hx.cell b6
  have HX8 := Lib.hid (Ext.trans HX7.out hx)
  clear hx
  by_cases hA : againstL (overL L T) (q0 q) = []
  · have hK : K = [] := who_some hA HWHO.out
    obtain rfl : nk = 0 := by rw [← HKN.out, hK]; rfl
    obtain rfl : g = true := by rw [← HGG.out, HR.out, ask_some HO0.out HM.out HB.out.1 hA]
    clear hA hK
    go_wp2
    go_loopw [14, 15] (fun v i wr => R1 w8 (overL L T) q.i K 0 v i wr) (fun _ i _ => 0 - (intOf i).toNat)
    case atStart => exact ⟨0, rfl, by omega, by rw [List.take_zero]; exact HLO8.out, Ext.refl _⟩
    case round =>
      obtain ⟨j, rfl, hj, hs, hx⟩ := hrel
      have HXX := Lib.hid (Ext.trans HX8.out hx)
      have HXW := Lib.hid hx
      obtain rfl : j = 0 := by omega
      have HLF : Hid (backs (overL L T) q.i (K.take 0) = backs (overL L T) q.i K) := Lib.hid (by have h : K = [] := List.eq_nil_of_length_eq_zero HKN.out; rw [h]; rfl)
      rw [HLF.out] at hs
      obtain ⟨LF, hLF⟩ : ∃ LF, backs (overL L T) q.i K = LF := ⟨_, rfl⟩
      have HFR : Hid (againstL (overL LF T) (q0 q) = []) := Lib.hid (by rw [← hLF]; exact backs_free (q := q0 q) HI.out HO0.out HM.out HWHO.out)
      have HFI : Hid (Inv LF T ∧ LF.length ≤ 40) := Lib.hid (by
        have h1 := backs_inv (T := T) q.i K (overL L T) (HI.out.sub _)
        have h2 : (overL L T).length ≤ L.length := List.length_filter_le _ _
        rw [hLF] at h1
        exact ⟨h1.1, Nat.le_trans h1.2 (Nat.le_trans h2 HB.out.1)⟩)
      rw [hLF] at hs
      have HSF := Lib.hid hs
      obtain ⟨pf, nf, cf, rfl, _⟩ := hs
      replace b0 := hx.cell b0
      replace b1 := hx.cell b1
      replace b2 := hx.cell b2
      replace b3 := hx.cell b3
      replace b4 := hx.cell b4
      replace b5 := hx.cell b5
      replace b6 := hx.cell b6
      have HS10 := Lib.hid (HS8.out.ext hx)
      clear hx hLF
      go_wp2_with fail
      refine (ask_v _ LF T (q0 q) long _ HSF.out (by have := HFI.out.2; omega) HW.out (by have := HB.out; omega)).mono ?_
      rintro e w11 ⟨⟨v, kk2, K2, r2, rfl, hr2, hs2, hk2, hwho2⟩, hx⟩
      obtain rfl : K2 = [] := who_some HFR.out hwho2.out
      have hr3 := ask_some HO0.out HM.out HFI.out.2 HFR.out
      have hi3 := inv_ask HFI.out.1 (by have := HB.out; exact this.2.1) (by have := HB.out; exact Int.le_trans this.2.2 (by decide)) (q0 q) long
      rw [← hr2] at hr3 hi3
      obtain ⟨L9, g9⟩ := r2
      obtain rfl : g9 = true := (Prod.mk.inj hr3).2
      have HI9 : Hid (Inv L9 T) := Lib.hid hi3
      have HS9 : Hid (LLe.Sl w11 v L9) := Lib.hid hs2
      obtain ⟨p9, n9, c9, rfl, _⟩ := hs2
      obtain ⟨pk9, nk9, ck9, rfl, hkr9, _⟩ := hk2
      obtain rfl : 0 = nk9 := hkr9.1
      have HS11 := Lib.hid (HS10.out.ext hx)
      replace b0 := hx.cell b0
      replace b1 := hx.cell b1
      replace b2 := hx.cell b2
      replace b3 := hx.cell b3
      replace b4 := hx.cell b4
      replace b5 := hx.cell b5
      replace b6 := hx.cell b6
      have HX11 := Lib.hid (Ext.trans HXX.out hx)
      clear hx hkr9 hwho2 hr2 hr3 hi3
      go_wp2
      go_loopw [19, 20] (fun t i wr => R2 w11 L T nL t i wr) (fun _ i _ => nL - (intOf i).toNat)
      case atStart => exact ⟨0, T, rfl, by omega, rfl, Lib.hid ⟨by omega, by omega, by simp⟩, Ext.refl _⟩
      case round =>
        obtain ⟨s, U, rfl, hs, rfl, HU, hx⟩ := hrel
        by_cases hlt : s < nL
        · obtain ⟨x, gx⟩ := get_of L s (by rw [HLN.out]; exact hlt)
          obtain ⟨bx, ox, ex, _, c0, c1, c2, c3, c4, c5, c6⟩ := le_at (sl_row (HS11.out.ext hx)) gx
          subst ex
          have HXU : Hid (T ≤ max U x.u ∧ max U x.u ≤ T + 66 ∧ ∀ z ∈ L.take (s + 1), z.u ≤ max U x.u) := Lib.hid (by
            have h1 := HI.out.til x (List.mem_of_getElem? gx)
            have h2 := HU.out
            refine ⟨by omega, by omega, fun z hz => ?_⟩
            rw [List.take_add_one, gx] at hz
            rcases List.mem_append.1 hz with hz | hz
            · have := h2.2.2 z hz; omega
            · simp at hz; subst hz; omega)
          have h1 : (s : Int) < (nL : Int) := by omega
          have h0 : (0 : Int) ≤ (s : Int) := by omega
          clear gx c0 c1 c2 c3 c4 c6
          go_wp2
          go_roundw
          case rel => exact ⟨s + 1, max U x.u, by go_num, by omega, rfl, HXU, hx⟩
          case measure => simp [intOf]; omega
        obtain rfl : s = nL := by omega
        have HOV : Hid (overL L U = []) := Lib.hid (over_last fun x hx => HU.out.2.2 x (by rw [List.take_of_length_le (by rw [HLN.out]; omega)]; exact hx))
        have HUB : Hid (0 ≤ U ∧ U ≤ 1000000) := Lib.hid (by have h1 := HU.out; have h2 := HB.out.2; exact ⟨Int.le_trans h2.1 h1.1, Int.le_trans h1.2.1 (by have := h2.2; omega)⟩)
        have HS12 := Lib.hid (HS11.out.ext hx)
        have HS9' := Lib.hid (HS9.out.ext hx)
        have HX12 := Lib.hid (Ext.trans HX11.out hx)
        replace b0 := hx.cell b0
        replace b1 := hx.cell b1
        replace b2 := hx.cell b2
        replace b3 := hx.cell b3
        replace b4 := hx.cell b4
        replace b5 := hx.cell b5
        replace b6 := hx.cell b6
        clear hx
        go_wp2_with fail
        refine (ask_v _ L U (q0 q) long _ HS12.out (by have := HB.out; omega) HW.out (by have := HUB.out; omega)).mono ?_
        rintro e w13 ⟨⟨v, kk3, K3, r3, rfl, hr3, hs3, hk3, _⟩, hx⟩
        obtain rfl : r3 = ([qu (q0 q) (U + Clk.wt (Clk.aa long))], true) := hr3.trans (by
          rw [ask_some HO0.out HM.out HB.out.1 (by rw [HOV.out]; rfl), HOV.out]; rfl)
        obtain ⟨p13, n13, c13, rfl, hrw, _⟩ := hs3
        obtain rfl : 1 = n13 := hrw.1
        obtain ⟨pk13, nk13, ck13, rfl, _⟩ := hk3
        have HX13 := Lib.hid (Ext.trans HX12.out hx)
        have HS14 := Lib.hid (HS9'.out.ext hx)
        clear hx hrw hr3
        go_wp2_with fail
        refine (right_v _ L9 _ HS14.out (by have := HI9.out.len; omega)).mono ?_
        rintro e w15 ⟨rfl, hx⟩
        rw [HI9.out.right]
        have HX15 := Lib.hid (Ext.trans HX13.out hx)
        clear hx
        go_wp2
        go_ret
        exact ⟨rfl, HX15.out⟩
  · have HKL : Hid (0 < nk) := Lib.hid (by rw [← HKN.out]; exact (who_ne HO0.out HM.out hA HWHO.out).2)
    have hkb : ((nk : Int) == 0) = false := by have := HKL.out; simp; omega
    have hrr : r = (overL L T, false) := by rw [HR.out, ask_none HO0.out HM.out hA]
    obtain rfl : g = false := by rw [← HGG.out, hrr]
    have HV8' : Hid (LLe.Sl w8 (.slice pr nr cr) (overL L T)) := Lib.hid (by have h := HV8.out; rw [hrr] at h; exact h)
    clear hA hrr
    go_wp2_with fail
    refine (same_v _ _ (overL L T) (overL L T) _ HV8'.out HLO8.out).mono ?_
    rintro e w9 ⟨rfl, hx⟩
    rw [decide_eq_true (rfl : overL L T = overL L T)]
    have HS8 := Lib.hid (HS8.out.ext hx)
    have HK8 := Lib.hid (HK8.out.ext hx)
    have HLO8 := Lib.hid (HLO8.out.ext hx)
    replace b0 := hx.cell b0
    replace b1 := hx.cell b1
    replace b2 := hx.cell b2
    replace b3 := hx.cell b3
    replace b4 := hx.cell b4
    replace b5 := hx.cell b5
    replace b6 := hx.cell b6
    have HX8 := Lib.hid (Ext.trans HX8.out hx)
    clear hx
    go_wp2
    go_loopw [14, 15] (fun v i wr => R1 w9 (overL L T) q.i K nk v i wr) (fun _ i _ => nk - (intOf i).toNat)
    case atStart => exact ⟨0, rfl, by omega, by rw [List.take_zero]; exact HLO8.out, Ext.refl _⟩
    case round =>
      obtain ⟨j, rfl, hj, hs, hx⟩ := hrel
      have HXX := Lib.hid (Ext.trans HX8.out hx)
      have HXW := Lib.hid hx
      by_cases hlt : j < nk
      · obtain ⟨y, gc⟩ := get_of K j (by rw [HKN.out]; exact hlt)
        obtain ⟨bk, ok, ek, hck⟩ := (sl_row (HK8.out.ext hx)).ints.1.2.2 (by omega)
        subst ek
        have ck9 : wr.cell? ⟨bk, ok + j, none⟩ = some (.int .i64 y) := by
          rw [hck j hlt]
          simp [at0, List.getD_eq_getElem?_getD, gc]
        have HBS := Lib.hid (backs_snoc (overL L T) q.i K j y gc)
        have HSS : Hid (∀ w', Ext wr w' → w'.cell? ⟨bk, ok + j, none⟩ = some (.int .i64 y) ∧ w'.cell? ⟨w.heap.size, 1, none⟩ = some (.int .i64 (q0 q).i)) := Lib.hid (fun w' h => ⟨h.cell ck9, h.cell (hx.cell b1)⟩)
        have HBL : Hid ((backs (overL L T) q.i (K.take j)).length ≤ 1000) := Lib.hid (by
          have h1 := (backs_inv (T := T) q.i (K.take j) (overL L T) (HI.out.sub _)).2
          have h2 : (overL L T).length ≤ L.length := List.length_filter_le _ _
          have h3 := HB.out.1
          exact Nat.le_trans h1 (Nat.le_trans h2 (Nat.le_trans h3 (by decide))))
        have HSJ := Lib.hid hs
        obtain ⟨pj, nj, cj, rfl, _⟩ := hs
        have h1 : (j : Int) < (nk : Int) := by omega
        have h0 : (0 : Int) ≤ (j : Int) := by omega
        clear hx gc hck ck9
        go_wp2
        have hxx : Ext wr wr.drew := Ext.drew (Ext.refl _)
        go_region_held3 (fun w' => w'.cell? ⟨bk, ok + j, none⟩ = some (.int .i64 y) ∧ w'.cell? ⟨w.heap.size, 1, none⟩ = some (.int .i64 (q0 q).i)) ((refine HSS.out _ ?_; first | (with_reducible exact hxx))) ((go_at_call 19; refine (back_v _ (backs (overL L T) q.i (K.take j)) y (q0 q).i _ (HSJ.out.ext hxx) (Nat.le_trans HBL.out (by decide))).mono ?_; rintro e w12 ⟨⟨v, rfl, hown⟩, hx9⟩; have HS9 := Lib.hid hown.sl; obtain ⟨p9, c9, rfl, _⟩ := hown.opened; replace hxx := Ext.trans hxx hx9; clear hx9 hown))
        have HX9 := Lib.hid (Ext.trans HXW.out hxx)
        clear hxx
        go_wp2
        go_roundw
        case rel => exact ⟨j + 1, by go_num, by omega, by rw [HBS.out]; exact HS9.out, HX9.out⟩
        case measure => simp [intOf]; omega
      obtain rfl : j = nk := by omega
      have HLF : Hid (backs (overL L T) q.i (K.take j) = backs (overL L T) q.i K) := Lib.hid (by rw [List.take_of_length_le (by rw [HKN.out]; omega)])
      rw [HLF.out] at hs
      obtain ⟨LF, hLF⟩ : ∃ LF, backs (overL L T) q.i K = LF := ⟨_, rfl⟩
      have HFR : Hid (againstL (overL LF T) (q0 q) = []) := Lib.hid (by rw [← hLF]; exact backs_free (q := q0 q) HI.out HO0.out HM.out HWHO.out)
      have HFI : Hid (Inv LF T ∧ LF.length ≤ 40) := Lib.hid (by
        have h1 := backs_inv (T := T) q.i K (overL L T) (HI.out.sub _)
        have h2 : (overL L T).length ≤ L.length := List.length_filter_le _ _
        rw [hLF] at h1
        exact ⟨h1.1, Nat.le_trans h1.2 (Nat.le_trans h2 HB.out.1)⟩)
      rw [hLF] at hs
      have HSF := Lib.hid hs
      obtain ⟨pf, nf, cf, rfl, _⟩ := hs
      replace b0 := hx.cell b0
      replace b1 := hx.cell b1
      replace b2 := hx.cell b2
      replace b3 := hx.cell b3
      replace b4 := hx.cell b4
      replace b5 := hx.cell b5
      replace b6 := hx.cell b6
      have HS10 := Lib.hid (HS8.out.ext hx)
      clear hx hLF
      go_wp2_with fail
      refine (ask_v _ LF T (q0 q) long _ HSF.out (by have := HFI.out.2; omega) HW.out (by have := HB.out; omega)).mono ?_
      rintro e w11 ⟨⟨v, kk2, K2, r2, rfl, hr2, hs2, hk2, hwho2⟩, hx⟩
      obtain rfl : K2 = [] := who_some HFR.out hwho2.out
      have hr3 := ask_some HO0.out HM.out HFI.out.2 HFR.out
      have hi3 := inv_ask HFI.out.1 (by have := HB.out; exact this.2.1) (by have := HB.out; exact Int.le_trans this.2.2 (by decide)) (q0 q) long
      rw [← hr2] at hr3 hi3
      obtain ⟨L9, g9⟩ := r2
      obtain rfl : g9 = true := (Prod.mk.inj hr3).2
      have HI9 : Hid (Inv L9 T) := Lib.hid hi3
      have HS9 : Hid (LLe.Sl w11 v L9) := Lib.hid hs2
      obtain ⟨p9, n9, c9, rfl, _⟩ := hs2
      obtain ⟨pk9, nk9, ck9, rfl, hkr9, _⟩ := hk2
      obtain rfl : 0 = nk9 := hkr9.1
      have HS11 := Lib.hid (HS10.out.ext hx)
      replace b0 := hx.cell b0
      replace b1 := hx.cell b1
      replace b2 := hx.cell b2
      replace b3 := hx.cell b3
      replace b4 := hx.cell b4
      replace b5 := hx.cell b5
      replace b6 := hx.cell b6
      have HX11 := Lib.hid (Ext.trans HXX.out hx)
      clear hx hkr9 hwho2 hr2 hr3 hi3
      go_wp2
      go_loopw [19, 20] (fun t i wr => R2 w11 L T nL t i wr) (fun _ i _ => nL - (intOf i).toNat)
      case atStart => exact ⟨0, T, rfl, by omega, rfl, Lib.hid ⟨by omega, by omega, by simp⟩, Ext.refl _⟩
      case round =>
        obtain ⟨s, U, rfl, hs, rfl, HU, hx⟩ := hrel
        by_cases hlt : s < nL
        · obtain ⟨x, gx⟩ := get_of L s (by rw [HLN.out]; exact hlt)
          obtain ⟨bx, ox, ex, _, c0, c1, c2, c3, c4, c5, c6⟩ := le_at (sl_row (HS11.out.ext hx)) gx
          subst ex
          have HXU : Hid (T ≤ max U x.u ∧ max U x.u ≤ T + 66 ∧ ∀ z ∈ L.take (s + 1), z.u ≤ max U x.u) := Lib.hid (by
            have h1 := HI.out.til x (List.mem_of_getElem? gx)
            have h2 := HU.out
            refine ⟨by omega, by omega, fun z hz => ?_⟩
            rw [List.take_add_one, gx] at hz
            rcases List.mem_append.1 hz with hz | hz
            · have := h2.2.2 z hz; omega
            · simp at hz; subst hz; omega)
          have h1 : (s : Int) < (nL : Int) := by omega
          have h0 : (0 : Int) ≤ (s : Int) := by omega
          clear gx c0 c1 c2 c3 c4 c6
          go_wp2
          go_roundw
          case rel => exact ⟨s + 1, max U x.u, by go_num, by omega, rfl, HXU, hx⟩
          case measure => simp [intOf]; omega
        obtain rfl : s = nL := by omega
        have HOV : Hid (overL L U = []) := Lib.hid (over_last fun x hx => HU.out.2.2 x (by rw [List.take_of_length_le (by rw [HLN.out]; omega)]; exact hx))
        have HUB : Hid (0 ≤ U ∧ U ≤ 1000000) := Lib.hid (by have h1 := HU.out; have h2 := HB.out.2; exact ⟨Int.le_trans h2.1 h1.1, Int.le_trans h1.2.1 (by have := h2.2; omega)⟩)
        have HS12 := Lib.hid (HS11.out.ext hx)
        have HS9' := Lib.hid (HS9.out.ext hx)
        have HX12 := Lib.hid (Ext.trans HX11.out hx)
        replace b0 := hx.cell b0
        replace b1 := hx.cell b1
        replace b2 := hx.cell b2
        replace b3 := hx.cell b3
        replace b4 := hx.cell b4
        replace b5 := hx.cell b5
        replace b6 := hx.cell b6
        clear hx
        go_wp2_with fail
        refine (ask_v _ L U (q0 q) long _ HS12.out (by have := HB.out; omega) HW.out (by have := HUB.out; omega)).mono ?_
        rintro e w13 ⟨⟨v, kk3, K3, r3, rfl, hr3, hs3, hk3, _⟩, hx⟩
        obtain rfl : r3 = ([qu (q0 q) (U + Clk.wt (Clk.aa long))], true) := hr3.trans (by
          rw [ask_some HO0.out HM.out HB.out.1 (by rw [HOV.out]; rfl), HOV.out]; rfl)
        obtain ⟨p13, n13, c13, rfl, hrw, _⟩ := hs3
        obtain rfl : 1 = n13 := hrw.1
        obtain ⟨pk13, nk13, ck13, rfl, _⟩ := hk3
        have HX13 := Lib.hid (Ext.trans HX12.out hx)
        have HS14 := Lib.hid (HS9'.out.ext hx)
        clear hx hrw hr3
        go_wp2_with fail
        refine (right_v _ L9 _ HS14.out (by have := HI9.out.len; omega)).mono ?_
        rintro e w15 ⟨rfl, hx⟩
        rw [HI9.out.right]
        have HX15 := Lib.hid (Ext.trans HX13.out hx)
        clear hx
        go_wp2
        go_ret
        exact ⟨rfl, HX15.out⟩
end Go.Proofs.Ytocnopgpdlfkjaa.Ls
