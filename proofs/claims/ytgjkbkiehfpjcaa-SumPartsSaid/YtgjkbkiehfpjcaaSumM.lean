/- The walk of SumFits. -/
import Derived.Test.YtgjkbkiehfpjcaaSumL
import Derived.Test.YtgjkbkiehfpjcaaSumK
import Derived.Test.YtgjkbkiehfpjcaaSumG
namespace Go.Proofs.Ytgjkbkiehfpjcaa.Sm
open Go.RowKit Go.Proofs.Ytgjkbkiehfpjcaa Go.Proofs.Ytgjkbkiehfpjcaa.Crc
set_option linter.unusedVariables false

theorem news_rowI {k : IntKind} {w : World} {p : Option Addr} {n : Nat} {zs : List Int} (h : RowI k w p n zs) : ∀ ad, p = some ad → ∀ j u, (zs.map (Value.int k))[j]? = some u → w.cell? (ad.add j) = some u := by
  intro ad hp j u hu
  by_cases h0 : 0 < n
  · obtain ⟨b, off, hq, hc⟩ := h.2.2 h0
    rw [hq] at hp
    cases hp
    have hj : j < zs.length := by
      by_cases h1 : j < zs.length
      · exact h1
      · rw [List.getElem?_eq_none (by simpa using h1)] at hu; cases hu
    rw [Addr.add_mid, hc j (by rw [← h.1]; exact hj), ← hu, List.getElem?_map, List.getElem?_eq_getElem hj, at0, List.getD_eq_getElem?_getD, List.getElem?_eq_getElem hj]
    rfl
  · have : zs = [] := List.eq_nil_of_length_eq_zero (by rw [h.1]; omega)
    subst this
    simp at hu
theorem rowI_take {k : IntKind} {w : World} {p : Option Addr} {n : Nat} {zs : List Int} (h : RowI k w p n zs) (m : Nat) (hm : m ≤ n) : RowI k w p m (zs.take m) := by
  refine ⟨by rw [List.length_take, h.1]; omega, by have := h.2.1; omega, fun h0 => ?_⟩
  obtain ⟨b, off, hq, hc⟩ := h.2.2 (by omega)
  exact ⟨b, off, hq, fun j hj => by rw [at0_take _ _ _ hj]; exact hc j (by omega)⟩
theorem own_le {w : World} {base g n cap size : Nat} {e : TypeId} {xs : List Value} (h : w.ownsRow base e size (.slice (some ⟨g, 0, none⟩) n cap) n xs) (h0 : 0 < n) : n ≤ cap := by
  rcases h.2 with ⟨_, hn⟩ | ⟨g', cap', cur, hv, _, _, hc, _⟩
  · omega
  · simp only [Value.slice.injEq] at hv
    obtain ⟨_, _, rfl⟩ := hv
    exact hc
theorem ints_one (k : IntKind) (zs : List Int) : ∀ u ∈ zs.map (Value.int k), u.oneCell' = true := by
  intro u hu
  obtain ⟨x, _, rfl⟩ := List.mem_map.1 hu
  rfl

set_option maxRecDepth 100000 in
set_option maxHeartbeats 2000000 in
theorem fits_walk {p : Option Addr} {n c at' x : Nat} {l : List Nat} {w : World} (hp : RowB w p n l) (hc : n ≤ c) (pl : Pl p c) (hat : at' < 65536) (hx : x < 256) :
    Calls Try.prog 6 #[.slice p n c, .int .u16 (at' : Nat), .int .u8 (x : Nat)] w fun e w' => e = .returned (.bool true) ∧ Ext w w' := by
  obtain ⟨i0, hi0, hz0, hz1, hz2⟩ := info_parts info_u8
  obtain ⟨i1, hi1, hy0, hy1, hy2⟩ := info_parts info_int
  have HP := Lib.hid hp
  have hn := hp.le
  have HPL := Lib.hid (pl.none hc)
  clear hp pl
  by_cases h400 : n ≤ 400
  · have g1 : decide ((400 : Int) < (n : Int)) = false := decide_eq_false (by omega)
    have hlb : (bsums l).length = (n + 15) / 16 := by rw [bsums_length, HP.out.length]
    obtain ⟨M, hM⟩ : ∃ M, M = (n + 15) / 16 := ⟨_, rfl⟩
    have hM1 : M ≤ 400 := by omega
    have hMi : ((n : Int) + 15) / 16 = (M : Int) := by omega
    have HM := Lib.hid hM
    rw [← hM] at hlb
    have HLB := Lib.hid hlb
    clear hM hlb
    go_enter Try.func6, Try.ntmps6
    go_wp2_with fail
    refine (head_any _).mono ?_
    rintro e w1 ⟨rfl, hx1⟩
    go_wp2_with fail
    refine (blocks_any _ _ _ _ _ (HP.out.ext hx1) (by omega) hc).mono ?_
    rintro e w2 ⟨g, m, rfl, hown, hx2⟩
    have hm : m = M := by have := hown.1; simp [HLB.out] at this; omega
    subst hm
    have HO := Lib.hid hown
    replace hx1 := Ext.trans hx1 hx2
    obtain ⟨p1, c1, hv1, hr1⟩ := rowI_of_own (k := .i64) (zs := bsums l) hown (by omega)
    simp only [Value.slice.injEq] at hv1
    obtain ⟨rfl, _, rfl⟩ := hv1
    have HR := Lib.hid hr1
    clear hr1 hx2 hown
    have hne : ((m : Int) != (m : Int)) = false := by simp
    go_wp2_with fail
    refine (check_any _ _ _ _ _ _ _ _ _ (HP.out.ext hx1) HR.out (by omega) hc).mono ?_
    rw [chk_self]
    rintro e w3 ⟨rfl, hx2⟩
    have HR3 := Lib.hid (HR.out.ext (Ext.trans hx2 (Ext.alloc w3 (.cells #[] 3))))
    replace hx1 := Ext.trans hx1 hx2
    have hx2' := hx2
    clear HR hx2
    go_wp2_with (at_builtin; first | (refine wpList_append_srcW (by rfl) (.tmp 34) (.tmp 35) 23 rfl w3.heap.size 3 i1 (.int .i64 0) 1 8 Try.underlying23 hi1 hy0 hy1 hy2 rfl (by decide) _ 0 [] rfl (World.ownsRow_made (e := 3) (size := 1) w3 #[] 0 (Nat.le_refl _) (by decide) rfl) (some ⟨g, 0, none⟩) m m ((bsums l).map (.int .i64)) rfl (by rw [List.length_map, HLB.out]; omega) (fun h => by cases h) (news_rowI HR3.out) (ints_one _ _) (by unfold maxLen; omega) (by omega) (by simp) ?_; intro v5 w5 hownA hgA; have X5 : Ext w3 w5 := below_grown (Ext.alloc _ _) (Nat.le_refl _) hgA (World.ownsRow_made (e := 3) (size := 1) w3 #[] 0 (Nat.le_refl _) (by decide) rfl)) | (refine wpList_append_srcW (by rfl) (.tmp 36) (.tmp 37) 23 rfl w3.heap.size 3 i1 (.int .i64 0) 1 8 Try.underlying23 hi1 hy0 hy1 hy2 rfl (by decide) _ (0 + m) ([] ++ (bsums l).map (.int .i64)) rfl (hownA.alloc _) (some ⟨w5.heap.size, 0, none⟩) 1 1 [.int .i64 0] rfl rfl (fun h => by cases h) (fun ad h => by cases h; exact World.news_of_block (cs := #[.int .i64 0]) (heap_alloc_new _ _)) (by intro u hu; simp at hu; subst hu; rfl) (by unfold maxLen; omega) (by omega) (by have := X5.size; simp; omega) ?_; intro v6 w6 hownB hgB))
    have X6 : Ext w3 w6 := below_grown (Ext.trans X5 (Ext.alloc _ _)) (Nat.le_refl _) hgB (hownA.alloc _)
    obtain ⟨pb, cb, rfl, hrb⟩ := rowI_of_own (k := .i64) (zs := bsums l ++ [0]) (by have := hownB; rw [List.nil_append, Nat.zero_add] at this; rw [List.map_append]; exact this) (by omega)
    have HRB := Lib.hid hrb
    replace hx1 := Ext.trans hx1 X6
    have HO6 := Lib.hid (own_ext (own_ext HO.out hx2') X6)
    clear hownA hgA hownB hgB hrb X5 
    go_wp2_with fail
    refine (check_any _ _ _ _ _ _ _ _ _ (HP.out.ext hx1) HRB.out (by omega) hc).mono ?_
    rw [chk_more, HLB.out]
    rintro e w7 ⟨rfl, hx2⟩
    replace hx1 := Ext.trans hx1 hx2
    have HL6 := Lib.hid (own_ext HO6.out hx2)
    clear hx2 hx2' HRB HR3 X6 HO HO6
    by_cases h0 : n = 0
    · have g2 : ((n : Int) == 0) = true := by rw [h0]; rfl
      have H0 := Lib.hid h0
      clear h0
      go_wp2
      go_ret
      exact ⟨rfl, hx1⟩
    · have g2 : ((n : Int) == 0) = false := by simpa using h0
      have hpos : 0 < n := by omega
      obtain ⟨b, off, rfl, _⟩ := HP.out.cells hpos
      have hz : (n : Int) ≠ 0 := by omega
      have hmod : ((at' : Int) % (n : Int)) = ((at' % n : Nat) : Int) := by simp
      have hk : at' % n < n := Nat.mod_lt _ hpos
      have hk' : ((at' % n : Nat) : Int) < (n : Int) := by omega
      generalize at' % n = k at hmod hk hk'
      have HLN := Lib.hid HP.out.length
      have HC := Lib.hid (HP.out.ext (Ext.trans hx1 (Ext.alloc w7 (.cells #[] 5))))
      -- TAIL
      obtain ⟨m', hm'⟩ : ∃ m', m = m' + 1 := ⟨m - 1, by have := HM.out; omega⟩
      have hmm : (m : Int) - 1 = (m' : Int) := by omega
      have hml : (m' : Int) ≤ (m : Int) := by omega
      have HMM := Lib.hid hm'
      have HCL : Hid (chk (bsums l) ((bsums l).take m') = (m' : Int)) := Lib.hid (by
        have := chk_less (bsums l) (by rw [HLB.out]; omega)
        rw [HLB.out, hm', Nat.add_sub_cancel] at this
        exact this)
      clear hm'
      have hk0 : (0 : Int) ≤ (k : Int) := by omega
      have hvg := vals_get l k (by rw [HLN.out]; exact hk)
      have z1 := u8x (byte_lt HP.out.2 k) hx
      have HT : Hid (l.set k (l.getD k 0 ^^^ x) = turn1 l k x) := Lib.hid rfl
      generalize l.getD k 0 ^^^ x = y at z1 HT
      generalize l.getD k 0 = y0 at hvg z1
      have HVG := Lib.hid hvg
      clear hvg
      obtain ⟨q, hq⟩ : ∃ q, q = k / 16 := ⟨_, rfl⟩
      have hdk : (k : Int) / 16 = (q : Int) := by omega
      have HQ := Lib.hid hq
      clear hq
      by_cases hx0 : x = 0
      · have e1 : ((x : Int) == 0) = true := by rw [hx0]; rfl
        have HX0 := Lib.hid hx0
        clear hx0
        go_wp2_with (at_builtin; refine wpList_append_src rfl (.tmp 53) (.tmp 54) 22 rfl w7.heap.size 5 i0 (.int .u8 0) 1 1 Try.underlying22 hi0 hz0 hz1 hz2 rfl (by decide) _ 0 [] rfl (World.ownsRow_made (e := 5) (size := 1) w7 #[] 0 (Nat.le_refl _) (by decide) rfl) (some ⟨b, off, none⟩) n c (vals l) rfl (by rw [vals_length, HLN.out]; omega) (fun h => by cases h) (news_rowB' HC.out) (vals_one _) (by unfold maxLen; omega) (by omega) (by simp) ?_; intro v8 w8 hownC hgC; have X8 : Ext w7 w8 := below_grown (Ext.alloc _ _) (Nat.le_refl _) hgC (World.ownsRow_made (e := 5) (size := 1) w7 #[] 0 (Nat.le_refl _) (by decide) rfl); simp only [Nat.zero_add, List.nil_append] at hownC; obtain ⟨g2, cap2, rfl, _, _⟩ := hownC.form hpos; have cg := (hownC.cellAt k (by omega)).trans HVG.out; have fg := hownC.frozenAt k; have HCO := Lib.hid hownC; clear hownC hgC)
        have hst := (HCO.out.stored k (.int .u8 ((y : Nat) : Int))).1
        rw [vals_set, HT.out] at hst
        have HCAP : Hid (n ≤ cap2) := Lib.hid (own_le HCO.out hpos)
        have hgw : w7.heap.size ≤ g2 := (HCO.out.lt g2 rfl).1
        have X9 : Ext w7 (w8.setCell ⟨g2, k, none⟩ (.int .u8 ((y : Nat) : Int))) := Below.setCell X8 hgw _
        have HRC := Lib.hid (rowB_own hst (turn1_lt l k x HP.out.2 hx) (by omega))
        replace hx1 := Ext.trans hx1 X9
        have HL9 := Lib.hid (own_ext HL6.out X9)
        clear hst X8 X9 HCO cg fg
        generalize w8.setCell ⟨g2, k, none⟩ (.int .u8 ((y : Nat) : Int)) = w9 at hx1 HL9 HRC ⊢
        obtain ⟨p1, c1, hv1, hr1⟩ := rowI_of_own (k := .i64) (zs := bsums l) HL9.out (by omega)
        simp only [Value.slice.injEq] at hv1
        obtain ⟨rfl, _, rfl⟩ := hv1
        have HR := Lib.hid hr1
        clear hr1 HL9
        refine (check_any _ _ _ _ _ _ _ _ _ HRC.out HR.out (by omega) HCAP.out).mono ?_
        rw [show turn1 l k x = l by rw [HX0.out, turn1_zero l k (by rw [HLN.out]; exact hk)], chk_self]
        rintro e w10 ⟨rfl, hx2⟩
        have HR2 := Lib.hid (rowI_take (HR.out.ext hx2) m' (by have := HMM.out; omega))
        replace hx1 := Ext.trans hx1 hx2
        clear hx2 HR HRC
        have hw : ((-1 : Int) == (-1 : Int)) = true := by simp
        go_wp2_with fail
        refine (check_any _ _ _ _ _ _ _ _ _ (HP.out.ext hx1) HR2.out (by omega) hc).mono ?_
        rw [HCL.out]
        rintro e w11 ⟨rfl, hx2⟩
        have hw2 : ((m' : Int) == (m' : Int)) = true := by simp
        go_wp2
        go_ret
        exact ⟨rfl, Ext.trans hx1 hx2⟩
      · have e1 : ((x : Int) == 0) = false := by simpa using hx0
        have HX0 := Lib.hid hx0
        clear hx0
        go_wp2_with (at_builtin; refine wpList_append_src rfl (.tmp 53) (.tmp 54) 22 rfl w7.heap.size 5 i0 (.int .u8 0) 1 1 Try.underlying22 hi0 hz0 hz1 hz2 rfl (by decide) _ 0 [] rfl (World.ownsRow_made (e := 5) (size := 1) w7 #[] 0 (Nat.le_refl _) (by decide) rfl) (some ⟨b, off, none⟩) n c (vals l) rfl (by rw [vals_length, HLN.out]; omega) (fun h => by cases h) (news_rowB' HC.out) (vals_one _) (by unfold maxLen; omega) (by omega) (by simp) ?_; intro v8 w8 hownC hgC; have X8 : Ext w7 w8 := below_grown (Ext.alloc _ _) (Nat.le_refl _) hgC (World.ownsRow_made (e := 5) (size := 1) w7 #[] 0 (Nat.le_refl _) (by decide) rfl); simp only [Nat.zero_add, List.nil_append] at hownC; obtain ⟨g2, cap2, rfl, _, _⟩ := hownC.form hpos; have cg := (hownC.cellAt k (by omega)).trans HVG.out; have fg := hownC.frozenAt k; have HCO := Lib.hid hownC; clear hownC hgC)
        have hst := (HCO.out.stored k (.int .u8 ((y : Nat) : Int))).1
        rw [vals_set, HT.out] at hst
        have HCAP : Hid (n ≤ cap2) := Lib.hid (own_le HCO.out hpos)
        have hgw : w7.heap.size ≤ g2 := (HCO.out.lt g2 rfl).1
        have X9 : Ext w7 (w8.setCell ⟨g2, k, none⟩ (.int .u8 ((y : Nat) : Int))) := Below.setCell X8 hgw _
        have HRC := Lib.hid (rowB_own hst (turn1_lt l k x HP.out.2 hx) (by omega))
        replace hx1 := Ext.trans hx1 X9
        have HL9 := Lib.hid (own_ext HL6.out X9)
        clear hst X8 X9 HCO cg fg
        generalize w8.setCell ⟨g2, k, none⟩ (.int .u8 ((y : Nat) : Int)) = w9 at hx1 HL9 HRC ⊢
        obtain ⟨p1, c1, hv1, hr1⟩ := rowI_of_own (k := .i64) (zs := bsums l) HL9.out (by omega)
        simp only [Value.slice.injEq] at hv1
        obtain ⟨rfl, _, rfl⟩ := hv1
        have HR := Lib.hid hr1
        clear hr1 HL9
        refine (check_any _ _ _ _ _ _ _ _ _ HRC.out HR.out (by omega) HCAP.out).mono ?_
        rw [chk_turn l k x HP.out.2 hx HX0.out (by rw [HLN.out]; exact hk), ← HQ.out]
        rintro e w10 ⟨rfl, hx2⟩
        have HR2 := Lib.hid (rowI_take (HR.out.ext hx2) m' (by have := HMM.out; omega))
        replace hx1 := Ext.trans hx1 hx2
        clear hx2 HR HRC
        have hw : ((q : Int) == (q : Int)) = true := by simp
        go_wp2_with fail
        refine (check_any _ _ _ _ _ _ _ _ _ (HP.out.ext hx1) HR2.out (by omega) hc).mono ?_
        rw [HCL.out]
        rintro e w11 ⟨rfl, hx2⟩
        have hw2 : ((m' : Int) == (m' : Int)) = true := by simp
        go_wp2
        go_ret
        exact ⟨rfl, Ext.trans hx1 hx2⟩
  · have g1 : (400 : Int) < (n : Int) := by omega
    go_enter Try.func6, Try.ntmps6
    go_wp2_with fail
    refine (head_any _).mono ?_
    rintro e w1 ⟨rfl, hx⟩
    go_wp2
    go_ret
    exact ⟨rfl, hx⟩
theorem fits_law {p : Option Addr} {n c : Nat} {l : List Nat} {a x : Int} {w : World} (hp : RowB w p n l) (hc : n ≤ c) (pl : Pl p c) (ha : (Lit.int .u16 a).wf = true) (hx : (Lit.int .u8 x).wf = true) :
    Calls Try.prog 6 #[.slice p n c, .int .u16 a, .int .u8 x] w fun e w' => e = .returned (.bool true) ∧ Ext w w' := by
  have h1 := bd_u16 ha
  have h2 := bd_u8 hx
  obtain ⟨a, rfl⟩ := Int.eq_ofNat_of_zero_le h1.1
  obtain ⟨x, rfl⟩ := Int.eq_ofNat_of_zero_le h2.1
  exact fits_walk hp hc pl (by omega) (by omega)
end Go.Proofs.Ytgjkbkiehfpjcaa.Sm
