/- Logs: the live question. -/
import Derived.Test.YtppckbhbgohbiaaLogI
namespace Go.Proofs.Ytppckbhbgohbiaa.Lg
open Go.RowKit Go.Proofs.Ytppckbhbgohbiaa
set_option linter.unusedVariables false

/-- a literal's entries -/
theorem entries_lit {w : World} {cs : Array Value} {B n : Nat} (ts : List Int) (hcs : cs = (ts.map (Value.int .i64)).toArray) (hB : w.heap.size = B) (hn : ts.length = n) (hw : ∀ t ∈ ts, (Lit.int .i64 t).wf = true) (h1 : n ≤ 1000) :
    Calls Try.prog 25 #[.slice (some ⟨B, 0, none⟩) n n] (w.alloc (.cells cs 3)) fun e w' => (∃ v, e = .returned v ∧ ∃ p c, v = .slice p n c ∧ LEnt.Row w' p n (seven ts) ∧ n ≤ c ∧ c ≤ 9223372036854775807 ∧ Pl p c) ∧ Ext w w' := by
  refine (entries_any _ _ _ ts _ (rowI_lit ts hcs hB hn (Ext.refl _) (by omega)) hw h1).mono fun e w' h => ?_
  obtain ⟨⟨v, rfl, ho⟩, hx⟩ := h
  obtain ⟨p, m, c, rfl, hr, h2, h3, h4⟩ := ho.sl
  obtain rfl : m = n := by rw [← hr.1]; unfold seven; simpa using hn
  exact ⟨⟨_, rfl, p, c, rfl, hr, h2, h3, h4⟩, Ext.trans (Ext.alloc _ _) hx⟩
/-- what is put, where all is known -/
theorem put_known {p q : Option Addr} {n c m d : Nat} {l more r : List Ent} {w : World} (hl : LEnt.Row w p n l) (hm : LEnt.Row w q m more) (hnc : n ≤ c) (hmd : m ≤ d) (hc : c ≤ 9223372036854775807) (hd : d ≤ 9223372036854775807) (hp : Pl p c) (hq : Pl q d)
    (hn : n ≤ 1000) (hm1 : m ≤ 1000) {A : Int} (a : Nat) (hA : A = a) (t : Int) (k : Nat) (hf : fitsB l a t = true) (hr : putL l a more = r) (hk : r.length = k) (h5 : k ≤ 500) :
    Calls Try.prog 12 #[.slice p n c, .int .i64 A, .int .i64 t, .slice q m d] w fun e w' => (∃ z s, e = .returned (.tuple #[.slice z k s, .bool true]) ∧ LEnt.Row w' z k r ∧ k ≤ s ∧ s ≤ 9223372036854775807 ∧ Pl z s) ∧ Ext w w' := by
  subst hA
  refine (put_fits p q n c m d l more w hl hm hnc hmd hc hd hp hq hn hm1 a t hf).mono fun e w' h => ?_
  obtain ⟨z, k', s, rfl, h, hx⟩ := h
  rw [hr] at h ⊢
  rw [decide_eq_true (by omega : r.length ≤ 500)]
  rw [if_pos (by omega)] at h
  obtain rfl : k' = k := by rw [← h.1.1, hk]
  exact ⟨⟨z, s, rfl, h⟩, hx⟩
theorem commit_lit {w : World} {cs : Array Value} {B m : Nat} (ms : List Int) (hcs : cs = (ms.map (Value.int .i64)).toArray) (hB : w.heap.size = B) (hm : ms.length = m) (h1 : m ≤ 1000) {p : Option Addr} {n c : Nat} {l : List Ent} (hl : LEnt.Row w p n l) (t was r : Int) (hr : commitL l t ms was = r) :
    Calls Try.prog 19 #[.slice p n c, .int .i64 t, .slice (some ⟨B, 0, none⟩) m m, .int .i64 was] (w.alloc (.cells cs 3)) fun e w' => e = .returned (.int .i64 r) ∧ Ext w w' := by
  refine (commit_any p _ n c m m l ms _ (hl.ext (Ext.alloc _ _)) (rowI_lit ms hcs hB hm (Ext.refl _) (by omega)) (by omega) t was).mono fun e w' h => ?_
  obtain ⟨rfl, hx⟩ := h
  exact ⟨by rw [hr], Ext.trans (Ext.alloc _ _) hx⟩

set_option maxRecDepth 100000 in
set_option maxHeartbeats 4000000 in
theorem head_any (w : World) : Calls Try.prog 10 #[] w fun e w' => e = .returned (.bool true) ∧ Ext w w' := by
  go_enter Try.func10, Try.ntmps10
  go_wp2_with fail
  refine (entries_lit (n := 3) [1, 1, 2] rfl (by first | rfl | simp) rfl (by decide) (by decide)).mono ?_
  rintro e w1 ⟨⟨v, rfl, pL, cL, rfl, hL, lL, mL, gL⟩, hx1⟩
  have HX := Lib.hid hx1
  clear HX
  have HL := Lib.hid hL
  have GL := Lib.hid gL
  have hx := hx1
  clear hx1 hL gL
  go_wp2_with fail
  refine (entries_lit (n := 2) [1, 3] rfl (by first | rfl | simp) rfl (by decide) (by decide)).mono ?_
  rintro e w1 ⟨⟨v, rfl, pE, cE, rfl, hE, lE, mE, gE⟩, hx1⟩
  have HX := Lib.hid hx1
  replace HL := Lib.hid (HL.out.ext HX.out)
  clear HX
  have HE := Lib.hid hE
  have GE := Lib.hid gE
  replace hx := Ext.trans hx hx1
  clear hx1 hE gE
  go_wp2_with fail
  refine (put_known (r := [(1, [7]), (1, [7]), (3, [7])]) HL.out HE.out lL lE mL mE GL.out GE.out (by omega) (by omega) 1 rfl 1 3 (by decide) (by decide) rfl (by omega)).mono ?_
  rintro e w1 ⟨⟨pA, cA, rfl, hA, lA, mA, gA⟩, hx1⟩
  have HX := Lib.hid hx1
  replace HL := Lib.hid (HL.out.ext HX.out)
  replace HE := Lib.hid (HE.out.ext HX.out)
  clear HX
  have HA := Lib.hid hA
  have GA := Lib.hid gA
  replace hx := Ext.trans hx hx1
  clear hx1 hA gA
  go_wp2_with fail
  refine (entries_lit (n := 1) [1] rfl (by first | rfl | simp) rfl (by decide) (by decide)).mono ?_
  rintro e w1 ⟨⟨v, rfl, pF, cF, rfl, hF, lF, mF, gF⟩, hx1⟩
  have HX := Lib.hid hx1
  replace HL := Lib.hid (HL.out.ext HX.out)
  replace HE := Lib.hid (HE.out.ext HX.out)
  replace HA := Lib.hid (HA.out.ext HX.out)
  clear HX
  have HF := Lib.hid hF
  have GF := Lib.hid gF
  replace hx := Ext.trans hx hx1
  clear hx1 hF gF
  go_wp2_with fail
  refine (put_known (r := [(1, [7]), (1, [7]), (2, [7])]) HL.out HF.out lL lF mL mF GL.out GF.out (by omega) (by omega) 1 rfl 1 3 (by decide) (by decide) rfl (by omega)).mono ?_
  rintro e w1 ⟨⟨pC, cC, rfl, hC, lC, mC, gC⟩, hx1⟩
  have HX := Lib.hid hx1
  replace HL := Lib.hid (HL.out.ext HX.out)
  replace HE := Lib.hid (HE.out.ext HX.out)
  replace HA := Lib.hid (HA.out.ext HX.out)
  replace HF := Lib.hid (HF.out.ext HX.out)
  clear HX
  have HC := Lib.hid hC
  have GC := Lib.hid gC
  replace hx := Ext.trans hx hx1
  clear hx1 hC gC
  go_wp2_with fail
  refine (put_not _ _ _ _ _ _ HL.out 3 1 (by decide)).mono ?_
  rintro e w' ⟨rfl, rfl⟩
  go_wp2_with fail
  refine (put_known (l := []) (r := [(1, [7]), (1, [7]), (2, [7])]) (Lay.Row.nil _ _ _) HL.out (by omega) lL (by omega) mL (fun h => by omega) GL.out (by omega) (by omega) 0 rfl 0 3 (by decide) (by decide) rfl (by omega)).mono ?_
  rintro e w1 ⟨⟨pK, cK, rfl, hK, lK, mK, gK⟩, hx1⟩
  have HX := Lib.hid hx1
  replace HL := Lib.hid (HL.out.ext HX.out)
  replace HE := Lib.hid (HE.out.ext HX.out)
  replace HA := Lib.hid (HA.out.ext HX.out)
  replace HF := Lib.hid (HF.out.ext HX.out)
  replace HC := Lib.hid (HC.out.ext HX.out)
  clear HX
  have HK := Lib.hid hK
  have GK := Lib.hid gK
  replace hx := Ext.trans hx hx1
  clear hx1 hK gK
  go_wp2_with fail
  refine (fits_any _ _ _ _ _ HL.out _ _).mono ?_
  rintro e w' ⟨rfl, rfl⟩
  rw [show fitsB (seven [1, 1, 2]) 2 1 = true by decide]
  go_wp2_with fail
  refine (fits_any _ _ _ _ _ HL.out _ _).mono ?_
  rintro e w' ⟨rfl, rfl⟩
  rw [show fitsB (seven [1, 1, 2]) 3 1 = false by decide]
  go_wp2_with fail
  refine (fits_any _ _ _ _ _ HL.out _ _).mono ?_
  rintro e w' ⟨rfl, rfl⟩
  rw [show fitsB (seven [1, 1, 2]) 0 0 = true by decide]
  go_wp2_with fail
  refine (fits_any _ _ _ _ _ HL.out _ _).mono ?_
  rintro e w' ⟨rfl, rfl⟩
  rw [show fitsB (seven [1, 1, 2]) 4 0 = false by decide]
  go_wp2_with fail
  refine (entries_lit (n := 3) [1, 1, 3] rfl (by first | rfl | simp) rfl (by decide) (by decide)).mono ?_
  rintro e w1 ⟨⟨v, rfl, pB, cB, rfl, hB, lB, mB, gB⟩, hx1⟩
  have HX := Lib.hid hx1
  replace HL := Lib.hid (HL.out.ext HX.out)
  replace HE := Lib.hid (HE.out.ext HX.out)
  replace HA := Lib.hid (HA.out.ext HX.out)
  replace HF := Lib.hid (HF.out.ext HX.out)
  replace HC := Lib.hid (HC.out.ext HX.out)
  replace HK := Lib.hid (HK.out.ext HX.out)
  clear HX
  have HB := Lib.hid hB
  have GB := Lib.hid gB
  replace hx := Ext.trans hx hx1
  clear hx1 hB gB
  go_wp2_with fail
  refine (rsame_any _ _ _ _ _ _ _ _ _ HA.out HB.out).mono ?_
  rintro e w1 ⟨rfl, hx1⟩
  rw [show decide ([(1, [7]), (1, [7]), (3, [7])] = seven [1, 1, 3]) = true by decide]
  have HX := Lib.hid hx1
  replace HL := Lib.hid (HL.out.ext HX.out)
  replace HE := Lib.hid (HE.out.ext HX.out)
  replace HA := Lib.hid (HA.out.ext HX.out)
  replace HF := Lib.hid (HF.out.ext HX.out)
  replace HC := Lib.hid (HC.out.ext HX.out)
  replace HK := Lib.hid (HK.out.ext HX.out)
  replace HB := Lib.hid (HB.out.ext HX.out)
  clear HX
  replace hx := Ext.trans hx hx1
  clear hx1
  go_wp2_with fail
  refine (rsame_any _ _ _ _ _ _ _ _ _ HC.out HL.out).mono ?_
  rintro e w1 ⟨rfl, hx1⟩
  rw [show decide ([(1, [7]), (1, [7]), (2, [7])] = seven [1, 1, 2]) = true by decide]
  have HX := Lib.hid hx1
  replace HL := Lib.hid (HL.out.ext HX.out)
  replace HE := Lib.hid (HE.out.ext HX.out)
  replace HA := Lib.hid (HA.out.ext HX.out)
  replace HF := Lib.hid (HF.out.ext HX.out)
  replace HC := Lib.hid (HC.out.ext HX.out)
  replace HK := Lib.hid (HK.out.ext HX.out)
  replace HB := Lib.hid (HB.out.ext HX.out)
  clear HX
  replace hx := Ext.trans hx hx1
  clear hx1
  go_wp2_with fail
  refine (rsame_any _ _ _ _ _ _ _ _ _ HK.out HL.out).mono ?_
  rintro e w1 ⟨rfl, hx1⟩
  rw [show decide ([(1, [7]), (1, [7]), (2, [7])] = seven [1, 1, 2]) = true by decide]
  have HX := Lib.hid hx1
  replace HL := Lib.hid (HL.out.ext HX.out)
  replace HE := Lib.hid (HE.out.ext HX.out)
  replace HA := Lib.hid (HA.out.ext HX.out)
  replace HF := Lib.hid (HF.out.ext HX.out)
  replace HC := Lib.hid (HC.out.ext HX.out)
  replace HK := Lib.hid (HK.out.ext HX.out)
  replace HB := Lib.hid (HB.out.ext HX.out)
  clear HX
  replace hx := Ext.trans hx hx1
  clear hx1
  go_wp2_with fail
  refine (newer_any _ _ _ _ _ HL.out _ _).mono ?_
  rintro e w' ⟨rfl, rfl⟩
  rw [show newerB (seven [1, 1, 2]) 2 2 = false by decide]
  go_wp2_with fail
  refine (newer_any _ _ _ _ _ HL.out _ _).mono ?_
  rintro e w' ⟨rfl, rfl⟩
  rw [show newerB (seven [1, 1, 2]) 2 3 = true by decide]
  go_wp2_with fail
  refine (newer_any _ _ _ _ _ HL.out _ _).mono ?_
  rintro e w' ⟨rfl, rfl⟩
  rw [show newerB (seven [1, 1, 2]) 3 0 = true by decide]
  go_wp2_with fail
  refine (entries_lit (n := 4) [1, 1, 2, 2] rfl (by first | rfl | simp) rfl (by decide) (by decide)).mono ?_
  rintro e w1 ⟨⟨v, rfl, pM, cM, rfl, hM, lM, mM, gM⟩, hx1⟩
  have HX := Lib.hid hx1
  replace HL := Lib.hid (HL.out.ext HX.out)
  replace HE := Lib.hid (HE.out.ext HX.out)
  replace HA := Lib.hid (HA.out.ext HX.out)
  replace HF := Lib.hid (HF.out.ext HX.out)
  replace HC := Lib.hid (HC.out.ext HX.out)
  replace HK := Lib.hid (HK.out.ext HX.out)
  replace HB := Lib.hid (HB.out.ext HX.out)
  clear HX
  have HM := Lib.hid hM
  have GM := Lib.hid gM
  replace hx := Ext.trans hx hx1
  clear hx1 hM gM
  go_wp2_with fail
  refine (commit_lit (m := 3) [4, 3, 1] rfl (by first | rfl | simp) rfl (by decide) HM.out 2 1 3 (by decide)).mono ?_
  rintro e w1 ⟨rfl, hx1⟩
  have HX := Lib.hid hx1
  replace HL := Lib.hid (HL.out.ext HX.out)
  replace HE := Lib.hid (HE.out.ext HX.out)
  replace HA := Lib.hid (HA.out.ext HX.out)
  replace HF := Lib.hid (HF.out.ext HX.out)
  replace HC := Lib.hid (HC.out.ext HX.out)
  replace HK := Lib.hid (HK.out.ext HX.out)
  replace HB := Lib.hid (HB.out.ext HX.out)
  replace HM := Lib.hid (HM.out.ext HX.out)
  clear HX
  replace hx := Ext.trans hx hx1
  clear hx1
  go_wp2_with fail
  refine (commit_lit (m := 3) [3, 3, 3] rfl (by first | rfl | simp) rfl (by decide) HL.out 1 0 2 (by decide)).mono ?_
  rintro e w1 ⟨rfl, hx1⟩
  have HX := Lib.hid hx1
  replace HL := Lib.hid (HL.out.ext HX.out)
  replace HE := Lib.hid (HE.out.ext HX.out)
  replace HA := Lib.hid (HA.out.ext HX.out)
  replace HF := Lib.hid (HF.out.ext HX.out)
  replace HC := Lib.hid (HC.out.ext HX.out)
  replace HK := Lib.hid (HK.out.ext HX.out)
  replace HB := Lib.hid (HB.out.ext HX.out)
  replace HM := Lib.hid (HM.out.ext HX.out)
  clear HX
  replace hx := Ext.trans hx hx1
  clear hx1
  go_wp2_with fail
  refine (commit_lit (m := 2) [1, 3] rfl (by first | rfl | simp) rfl (by decide) HL.out 2 1 1 (by decide)).mono ?_
  rintro e w1 ⟨rfl, hx1⟩
  have HX := Lib.hid hx1
  replace HL := Lib.hid (HL.out.ext HX.out)
  replace HE := Lib.hid (HE.out.ext HX.out)
  replace HA := Lib.hid (HA.out.ext HX.out)
  replace HF := Lib.hid (HF.out.ext HX.out)
  replace HC := Lib.hid (HC.out.ext HX.out)
  replace HK := Lib.hid (HK.out.ext HX.out)
  replace HB := Lib.hid (HB.out.ext HX.out)
  replace HM := Lib.hid (HM.out.ext HX.out)
  clear HX
  replace hx := Ext.trans hx hx1
  clear hx1
  go_wp2_with fail
  refine (same_any _ _ _ _ _ _ _ _ _ HL.out HL.out).mono ?_
  rintro e w1 ⟨rfl, hx1⟩
  rw [show decide (seven [1, 1, 2] = seven [1, 1, 2]) = true by decide]
  have HX := Lib.hid hx1
  replace HL := Lib.hid (HL.out.ext HX.out)
  replace HE := Lib.hid (HE.out.ext HX.out)
  replace HA := Lib.hid (HA.out.ext HX.out)
  replace HF := Lib.hid (HF.out.ext HX.out)
  replace HC := Lib.hid (HC.out.ext HX.out)
  replace HK := Lib.hid (HK.out.ext HX.out)
  replace HB := Lib.hid (HB.out.ext HX.out)
  replace HM := Lib.hid (HM.out.ext HX.out)
  clear HX
  replace hx := Ext.trans hx hx1
  clear hx1
  go_wp2_with fail
  refine (same_any _ _ _ _ _ _ _ _ _ HL.out HA.out).mono ?_
  rintro e w1 ⟨rfl, hx1⟩
  rw [show decide (seven [1, 1, 2] = [(1, [7]), (1, [7]), (3, [7])]) = false by decide]
  have HX := Lib.hid hx1
  replace HL := Lib.hid (HL.out.ext HX.out)
  replace HE := Lib.hid (HE.out.ext HX.out)
  replace HA := Lib.hid (HA.out.ext HX.out)
  replace HF := Lib.hid (HF.out.ext HX.out)
  replace HC := Lib.hid (HC.out.ext HX.out)
  replace HK := Lib.hid (HK.out.ext HX.out)
  replace HB := Lib.hid (HB.out.ext HX.out)
  replace HM := Lib.hid (HM.out.ext HX.out)
  clear HX
  replace hx := Ext.trans hx hx1
  clear hx1
  go_wp2
  go_ret
  exact ⟨rfl, hx⟩
end Go.Proofs.Ytppckbhbgohbiaa.Lg
