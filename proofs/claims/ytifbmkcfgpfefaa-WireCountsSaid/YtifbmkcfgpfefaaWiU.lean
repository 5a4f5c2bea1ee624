/- Messages: the walk of WireCounts. -/
import Derived.Test.YtifbmkcfgpfefaaWiO
import Derived.Test.YtifbmkcfgpfefaaGrow
namespace Go.Proofs.Ytifbmkcfgpfefaa.Wi
open Go.RowKit Go.Proofs.Ytifbmkcfgpfefaa
set_option linter.unusedVariables false

def LQA : Lay (Mg × Int × Int) := LMg.pair ((Lay.int .u8).pair (Lay.int .u8))
theorem opens_act : Lay.Opens 40 LQA := Lay.Opens.struct Try.underlying40 rfl (by kernel_rfl) (Lay.OpensFs.cons rfl opens_mg (Lay.OpensFs.cons rfl opens_u8 (Lay.OpensFs.last rfl opens_u8)))
theorem opens_acts : Lay.Opens 38 (Lay.slice LQA) := Lay.Opens.slice Try.underlying38 (by kernel_rfl) opens_act
theorem act_at {w : World} {p : Option Addr} {n : Nat} {l : List (Mg × Int × Int)} (h : LQA.Row w p n l) {j : Nat} (hj : j < n) :
    ∃ y z t b off p1 n1 c1 q1 m1 d1, l[j]? = some (y, z, t) ∧ p = some ⟨b, off, none⟩ ∧ w.cell? ⟨b, off + j * 7, none⟩ = some (.int .i64 y.a) ∧ w.cell? ⟨b, off + j * 7 + 1, none⟩ = some (.int .i64 y.b) ∧ w.cell? ⟨b, off + j * 7 + 2, none⟩ = some (.int .i64 y.k) ∧
      w.cell? ⟨b, off + j * 7 + 3, none⟩ = some (.slice p1 n1 c1) ∧ w.cell? ⟨b, off + j * 7 + 4, none⟩ = some (.slice q1 m1 d1) ∧ w.cell? ⟨b, off + j * 7 + 5, none⟩ = some (.int .u8 z) ∧ w.cell? ⟨b, off + j * 7 + 6, none⟩ = some (.int .u8 t) ∧ MgC w y p1 n1 c1 q1 m1 d1 ∧ (Lit.int .u8 z).wf = true ∧ (Lit.int .u8 t).wf = true := by
  obtain ⟨b, off, ⟨y, z, t⟩, cs, rfl, hy, hr, hc⟩ := h.get (j := j) hj
  obtain ⟨u1, u2, rfl, hm, v1, v2, rfl, ⟨rfl, hz⟩, rfl, ht⟩ := hr
  obtain ⟨p1, n1, c1, q1, m1, d1, rfl, hg⟩ := mg_cells hm
  exact ⟨y, z, t, b, off, p1, n1, c1, q1, m1, d1, hy, rfl, hc 0 _ rfl, hc 1 _ rfl, hc 2 _ rfl, hc 3 _ rfl, hc 4 _ rfl, hc 5 _ rfl, hc 6 _ rfl, hg, hz, ht⟩
def cntF (f : Int) : Nat := if f = 3 then 2 else if f = 1 ∨ f = 4 then 1 else 0
theorem send_cnt {W : List Mg} {y : Mg} {f : Int} (h : W.length < 199) : (sendS W y f).length = W.length + cntF f ∧ ∀ x, manyL (sendS W y f) x = manyL W x + cntF f * if y = x then 1 else 0 := by
  unfold sendS cntF
  rw [if_neg (by omega)]
  split
  · rename_i e; subst e
    exact ⟨by simp, fun x => by rw [many_append, many_one]; simp⟩
  · rename_i e1
    split
    · rename_i e; subst e
      rw [show min (200 - W.length) 2 = 2 by omega]
      exact ⟨by simp, fun x => by rw [many_append, show List.replicate 2 y = [y] ++ [y] from rfl, many_append, many_one]; simp; omega⟩
    · rename_i e3
      split
      · rename_i e; subst e
        refine ⟨by simp; omega, fun x => ?_⟩
        have h0 := congrArg (fun l => manyL l x) (List.take_append_drop (W.length - 1) W)
        simp only [many_append] at h0
        rw [show y :: W.drop (W.length - 1) = [y] ++ W.drop (W.length - 1) from rfl, many_append, many_append, many_one, ← h0]
        simp; omega
      · rename_i e4
        exact ⟨by simp [e1, e4], fun x => by simp [e1, e4]⟩
theorem take_cnt {W : List Mg} {r : Nat} {y : Mg} (h : W[r]? = some y) : (W.take r ++ W.drop (r + 1)).length + 1 = W.length ∧ ∀ x, manyL W x = manyL (W.take r ++ W.drop (r + 1)) x + if y = x then 1 else 0 := by
  have hr := (List.getElem?_eq_some_iff.1 h).1
  refine ⟨by simp; omega, fun x => ?_⟩
  have h0 := congrArg (fun l => manyL l x) (List.take_append_drop r W)
  have h1 : W.drop r = [y] ++ W.drop (r + 1) := by
    rw [List.drop_eq_getElem_cons hr, (List.getElem?_eq_some_iff.1 h).2]; rfl
  simp only [many_append] at h0
  rw [h1, many_append, many_one] at h0
  rw [many_append]; omega
def CntR (w4 : World) (x : Mg) (n : Nat) (u v k i : Value) (wr : World) : Prop :=
  ∃ (j : Nat) (W : List Mg) (K P : Nat), i = .int .i64 j ∧ j ≤ n ∧ LMg.Sl wr u W ∧ W.length ≤ 2 * j ∧ v = .int .i64 (P : Int) ∧ k = .int .i64 (K : Int) ∧ K ≤ j ∧ P = K + manyL W x ∧ Ext w4 wr
set_option maxRecDepth 100000 in
set_option maxHeartbeats 16000000 in
theorem counts_walk {cs0 : List Value} {x : Mg} {p : Option Addr} {n c : Nat} {l : List (Mg × Int × Int)} {w : World} (hl : LQA.Sl w (.slice p n c) l) (hd : LMg.R w cs0 x) : Calls Try.prog 4 #[.slice p n c, .agg cs0.toArray] w fun e w' => e = .returned (.bool true) ∧ Ext w w' := by
  obtain ⟨p1, n1, c1, q1, m1, d1, rfl, hx⟩ := mg_cells hd
  have HM := Lib.hid hx
  have HL := Lib.hid hl
  have hln : l.length = n := (sl_parts hl).1.1
  have HLN := Lib.hid hln
  have HXA : Hid (Ext w (w.alloc (.cells #[.int .i64 x.a, .int .i64 x.b, .int .i64 x.k, .slice p1 n1 c1, .slice q1 m1 d1] 26))) := Lib.hid (Ext.alloc _ _)
  clear hl hd hx
  go_enter Try.func4, Try.ntmps4
  go_wp2_with fail
  refine (head_v _).mono ?_
  rintro e w2 ⟨rfl, hx2⟩
  have HX2 := Lib.hid hx2
  have HW2 := Lib.hid (Ext.trans HXA.out hx2)
  have HL2 := Lib.hid (HL.out.ext HW2.out)
  have HM2 := Lib.hid (HM.out.ext HW2.out)
  clear hx2
  obtain ⟨a0, a1, a2, a3, a4⟩ := box5 HX2.out
  by_cases h80 : (80 : Int) < (n : Int)
  · go_wp2
    go_ret
    exact ⟨rfl, HW2.out⟩
  · go_wp2_with fail
    refine (great_any _ 1 1 [x] _ (mg_one _ (HM2.out.ext (Ext.alloc _ _)) (Ext.refl _))).mono ?_
    rintro e w4 ⟨⟨g2, rfl, hg2⟩, hw4⟩
    have HX4 : Hid (Ext w2 w4) := Lib.hid (by rw [hw4]; exact Ext.alloc _ _)
    clear hw4
    have HW4 := Lib.hid (Ext.trans HW2.out HX4.out)
    have HB4 := Lib.hid (Ext.trans HX2.out HX4.out)
    have HL4 := Lib.hid (HL.out.ext HW4.out)
    have HM4 := Lib.hid (HM.out.ext HW4.out)
    clear a0 a1 a2 a3 a4 hg2
    cases g2
    · have hn80 : n ≤ 80 := by omega
      have HNB : Hid (n ≤ 80) := Lib.hid hn80
      go_wp2
      go_loopw [6, 7, 8, 9] (fun u v k i wr => CntR w4 x n u v k i wr) (fun _ _ _ i _ => n - (intOf i).toNat)
      case atStart => exact ⟨0, [], 0, 0, rfl, by omega, Lay.Sl.nil _ _, by simp, rfl, rfl, by omega, by simp [manyL], Ext.refl _⟩
      case round =>
        obtain ⟨j, W, K, P, rfl, hj, hs, hwl, rfl, rfl, hkj, hp, hx⟩ := hrel
        obtain ⟨pu, nu, cu, rfl, hnu⟩ := sl_form hs
        have HS := Lib.hid hs
        have HX := Lib.hid hx
        have HP := Lib.hid hp
        have HNU := Lib.hid hnu
        have hml := many_le W x
        have hP : P ≤ 3 * j := by omega
        by_cases hlt : j < n
        · have hlt' : (j : Int) < (n : Int) := by omega
          have hlt0 : (0 : Int) ≤ (j : Int) := by omega
          obtain ⟨y, z, t, b, off, p2, n2, c2, q2, m2, d2, gy, hp2, x0, x1, x2, x3, x4, x5, x6, ty, hz, ht⟩ := act_at (sl_row HL4.out) hlt
          subst hp2
          have TY := Lib.hid ty
          have HCY : Hid (∀ w', Ext w4 w' → w'.cell? ⟨b, off + j * 7, none⟩ = some (.int .i64 y.a) ∧ w'.cell? ⟨b, off + j * 7 + 1, none⟩ = some (.int .i64 y.b) ∧ w'.cell? ⟨b, off + j * 7 + 2, none⟩ = some (.int .i64 y.k) ∧ w'.cell? ⟨b, off + j * 7 + 3, none⟩ = some (.slice p2 n2 c2) ∧ w'.cell? ⟨b, off + j * 7 + 4, none⟩ = some (.slice q2 m2 d2) ∧ w'.cell? ⟨b, off + j * 7 + 5, none⟩ = some (.int .u8 z) ∧ w'.cell? ⟨b, off + j * 7 + 6, none⟩ = some (.int .u8 t)) := Lib.hid fun w' h => ⟨h.cell x0, h.cell x1, h.cell x2, h.cell x3, h.cell x4, h.cell x5, h.cell x6⟩
          have hz' : 0 ≤ z ∧ z ≤ 255 := by simp [Lit.wf, IntKind.min, IntKind.max, IntKind.signed, IntKind.bits] at hz; omega
          have ht' : 0 ≤ t ∧ t ≤ 255 := by simp [Lit.wf, IntKind.min, IntKind.max, IntKind.signed, IntKind.bits] at ht; omega
          have HZ' := Lib.hid hz'
          have HT' := Lib.hid ht'
          have HNUB : Hid (nu ≤ 158) := Lib.hid (by omega)
          have HPB : Hid (P ≤ 240) := Lib.hid (by omega)
          have HKJ := Lib.hid hkj
          have HWL := Lib.hid hwl
          clear x0 x1 x2 x3 x4 x5 x6 gy ty hz ht hz' ht' hx hs hp hnu hml hkj hwl hP
          obtain ⟨x0, x1, x2, x3, x4, x5, x6⟩ := HCY.out wr HX.out
          go_wp2_with fail
          refine (great_any _ 1 1 [y] _ (mg_one _ (TY.out.ext (Ext.trans HX.out (Ext.alloc _ _))) (Ext.refl _))).mono ?_
          rintro e w5 ⟨⟨g3, rfl, hg3⟩, hw5⟩
          have HX5 : Hid (Ext wr w5) := Lib.hid (by rw [hw5]; exact Ext.alloc _ _)
          clear hw5 hg3 x0 x1 x2 x3 x4 x5 x6
          have HZ5 := Lib.hid (Ext.trans HX.out HX5.out)
          have HS5 := Lib.hid (HS.out.ext HX5.out)
          obtain ⟨x0, x1, x2, x3, x4, x5, x6⟩ := HCY.out w5 HZ5.out
          cases g3
          · have hwz : IntKind.i64.wrap z = z := IntWalk.i64_in _ (by have := HZ'.out; omega)
            have hzz := HZ'.out
            have hcase : z % 6 = 0 ∨ z % 6 = 1 ∨ z % 6 = 2 ∨ z % 6 = 3 ∨ z % 6 = 4 ∨ z % 6 = 5 := by omega
            have htm0 : Int.tmod z 6 = z % 6 := Int.tmod_eq_emod_of_nonneg (by omega)
            rcases hcase with hf | hf | hf | hf | hf | hf
            · have htm : Int.tmod z 6 = 0 := by rw [htm0, hf]
              clear htm0 hf hzz
              by_cases hz0 : nu = 0
              · subst hz0
                go_wp2
                go_roundw
                case rel => exact ⟨j + 1, W, K, P, by go_num, by omega, HS5.out, by have := HWL.out; omega, rfl, rfl, by have := HKJ.out; omega, HP.out, HZ5.out⟩
                case measure => simp [intOf]; omega
              · obtain ⟨v, rfl⟩ : ∃ v, nu = v + 1 := ⟨nu - 1, by omega⟩
                have hwt : IntKind.i64.wrap t = t := IntWalk.i64_in _ (by have := HT'.out; omega)
                obtain ⟨r, hr⟩ : ∃ r : Nat, t % ((v : Int) + 1) = (r : Int) := ⟨(t % ((v : Int) + 1)).toNat, by have := Int.emod_nonneg t (b := (v : Int) + 1) (by omega); omega⟩
                have hrl : r < v + 1 := by have := Int.emod_lt_of_pos t (b := (v : Int) + 1) (by omega); omega
                have htm1 : Int.tmod t ((v : Int) + 1) = (r : Int) := by rw [Int.tmod_eq_emod_of_nonneg HT'.out.1]; exact hr
                have hwr : IntKind.i64.wrap (r : Int) = (r : Int) := IntWalk.i64_in _ (by have := HNUB.out; omega)
                have hnz : ¬ (v : Int) + 1 = 0 := by omega
                have hnz2 : ((v : Int) + 1 == 0) = false := by simp; omega
                have hwv : IntKind.i64.wrap (v : Int) = (v : Int) := IntWalk.i64_in _ (by have := HNUB.out; omega)
                have hwv1 : IntKind.i64.wrap ((v : Int) + 1 - 1) = (v : Int) := by rw [IntKind.wrap_i64]; have := HNUB.out; omega
                have hwk : IntKind.i64.wrap ((K : Int) + 1) = (K : Int) + 1 := IntWalk.i64_in _ (by have := HKJ.out; omega)
                obtain ⟨s, gs⟩ : ∃ s, W[r]? = some s := ⟨_, List.getElem?_eq_getElem (by rw [← HNU.out]; exact hrl)⟩
                have HTK := Lib.hid (take_yes gs)
                obtain ⟨tc1, tc2⟩ := take_cnt gs
                have HTC := Lib.hid (tc2 x)
                have HTL := Lib.hid tc1
                clear hr gs tc1 tc2 hrl
                go_wp2_with fail
                refine (take_v pu (v + 1) cu W (r : Int) w5 HS5.out (by have := HNUB.out; omega)).mono ?_
                rintro e w7 ⟨⟨p7, n7, c7, q7, m7, d7, v7, rfl, hs7, hm7⟩, hx7⟩
                rw [HTK.out] at hs7 hm7 ⊢
                dsimp only at hs7 hm7 ⊢
                obtain ⟨pt, nt, ct, rfl, hnt⟩ := sl_form hs7
                have HS7 := Lib.hid hs7
                have HM7 := Lib.hid hm7
                have HX7 := Lib.hid (Ext.trans HZ5.out hx7)
                have hntv : nt = v := by have := HTL.out; have := HNU.out; omega
                subst hntv
                clear hs7 hm7 hx7 hnt x0 x1 x2 x3 x4 x5 x6
                obtain ⟨W8, hW8⟩ : ∃ W8, w7.alloc (.cells #[.int .i64 s.a, .int .i64 s.b, .int .i64 s.k, .slice p7 n7 c7, .slice q7 m7 d7] 26) = W8 := ⟨_, rfl⟩
                have HB8 : Hid (Ext (w7.alloc (.cells #[.int .i64 s.a, .int .i64 s.b, .int .i64 s.k, .slice p7 n7 c7, .slice q7 m7 d7] 26)) W8) := Lib.hid (by rw [hW8]; exact Ext.refl _)
                have HA8 := Lib.hid (Ext.trans (Ext.alloc _ _) HB8.out)
                have HX8 := Lib.hid (Ext.trans HX7.out HA8.out)
                obtain ⟨b0, b1, b2, b3, b4⟩ := box5 HB8.out
                obtain ⟨a0, a1, a2, a3, a4⟩ := box5 (Ext.trans HB4.out HX8.out)
                have hsame := rsame1_any s x p7 n7 c7 q7 m7 d7 p1 n1 c1 q1 m1 d1 W8 (HM7.out.ext HA8.out) (HM4.out.ext HX8.out)
                have HSM := Lib.hid hsame
                clear hsame
                go_wp2_with fail
                try rw [hW8]
                clear hW8
                by_cases hsx : s = x
                · have hc := HSM.out
                  rw [decide_eq_true hsx] at hc
                  have HSX := Lib.hid hsx
                  clear hsx
                  refine hc.mono ?_
                  rintro e w9 ⟨rfl, hx9⟩
                  have HX9 := Lib.hid hx9
                  clear hc hx9 a0 a1 a2 a3 a4 b0 b1 b2 b3 b4
                  go_wp2
                  go_roundw
                  case rel => exact ⟨j + 1, _, K + 1, P, by go_num, by omega, HS7.out.ext (Ext.trans HA8.out HX9.out), by have := HWL.out; have := HTL.out; omega, rfl, by go_num, by have := HKJ.out; omega, by have := HTC.out; rw [if_pos HSX.out] at this; have := HP.out; omega, Ext.trans HX8.out HX9.out⟩
                  case measure => simp [intOf]; omega
                · have hc := HSM.out
                  rw [decide_eq_false hsx] at hc
                  have HSX := Lib.hid hsx
                  clear hsx
                  refine hc.mono ?_
                  rintro e w9 ⟨rfl, hx9⟩
                  have HX9 := Lib.hid hx9
                  clear hc hx9 a0 a1 a2 a3 a4 b0 b1 b2 b3 b4
                  go_wp2
                  go_roundw
                  case rel => exact ⟨j + 1, _, K, P, by go_num, by omega, HS7.out.ext (Ext.trans HA8.out HX9.out), by have := HWL.out; have := HTL.out; omega, rfl, rfl, by have := HKJ.out; omega, by have := HTC.out; rw [if_neg HSX.out] at this; have := HP.out; omega, Ext.trans HX8.out HX9.out⟩
                  case measure => simp [intOf]; omega
            · have htm : Int.tmod z 6 = 1 := by rw [htm0, hf]
              clear htm0 hf hzz
              obtain ⟨sc1, sc2⟩ := send_cnt (W := W) (y := y) (f := 1) (by have := HNU.out; have := HNUB.out; omega)
              have HSC := Lib.hid (sc2 x)
              have HSL : Hid ((sendS W y 1).length = W.length + 1) := Lib.hid sc1
              clear sc1 sc2
              have hwn : IntKind.i64.wrap ((nu : Int) + 1) = (nu : Int) + 1 := by rw [IntKind.wrap_i64]; have := HNUB.out; omega
              have hwn0 : IntKind.i64.wrap (nu : Int) = (nu : Int) := by rw [IntKind.wrap_i64]; have := HNUB.out; omega
              have hwp : IntKind.i64.wrap ((P : Int) + 1) = (P : Int) + 1 := by rw [IntKind.wrap_i64]; have := HPB.out; omega
              have hwp0 : IntKind.i64.wrap (P : Int) = (P : Int) := by rw [IntKind.wrap_i64]; have := HPB.out; omega
              go_wp2_with fail
              refine (send_v pu nu cu W y p2 n2 c2 q2 m2 d2 1 w5 HS5.out (TY.out.ext HZ5.out) (by have := HNUB.out; omega)).mono ?_
              rintro e w7 ⟨⟨v7, rfl, hs7⟩, hx7⟩
              obtain ⟨pt, nt, ct, rfl, hnt⟩ := sl_form hs7
              have HS7 := Lib.hid hs7
              have HX7 := Lib.hid (Ext.trans HZ5.out hx7)
              obtain rfl : nt = nu + 1 := by have := HSL.out; have := HNU.out; omega
              clear hs7 hx7 hnt x0 x1 x2 x3 x4 x5 x6
              obtain ⟨x0, x1, x2, x3, x4, x5, x6⟩ := HCY.out w7 HX7.out
              obtain ⟨a0, a1, a2, a3, a4⟩ := box5 (Ext.trans HB4.out HX7.out)
              have X0 : ∀ g : Gr w7, g.w.cell? _ = some _ := fun g => g.cell x0
              have X1 : ∀ g : Gr w7, g.w.cell? _ = some _ := fun g => g.cell x1
              have X2 : ∀ g : Gr w7, g.w.cell? _ = some _ := fun g => g.cell x2
              have X3 : ∀ g : Gr w7, g.w.cell? _ = some _ := fun g => g.cell x3
              have X4 : ∀ g : Gr w7, g.w.cell? _ = some _ := fun g => g.cell x4
              have A0 : ∀ g : Gr w7, g.w.cell? _ = some _ := fun g => g.cell a0
              have A1 : ∀ g : Gr w7, g.w.cell? _ = some _ := fun g => g.cell a1
              have A2 : ∀ g : Gr w7, g.w.cell? _ = some _ := fun g => g.cell a2
              have A3 : ∀ g : Gr w7, g.w.cell? _ = some _ := fun g => g.cell a3
              have A4 : ∀ g : Gr w7, g.w.cell? _ = some _ := fun g => g.cell a4
              by_cases hsx : y = x
              · have HSX := Lib.hid hsx
                have KS : Hid (∀ g : Gr w7, Calls Try.prog 16 #[.agg #[.int .i64 y.a, .int .i64 y.b, .int .i64 y.k, .slice p2 n2 c2, .slice q2 m2 d2], .agg #[.int .i64 x.a, .int .i64 x.b, .int .i64 x.k, .slice p1 n1 c1, .slice q1 m1 d1]] g.w fun e w' => e = .returned (.bool true) ∧ Ext g.w w') := Lib.hid fun g => (by
                  have h := rsame1_any y x p2 n2 c2 q2 m2 d2 p1 n1 c1 q1 m1 d1 g.w (TY.out.ext (Ext.trans HX7.out g.h)) (HM4.out.ext (Ext.trans HX7.out g.h))
                  rwa [decide_eq_true hsx] at h)
                clear hsx x0 x1 x2 x3 x4 x5 x6 a0 a1 a2 a3 a4
                go_wp2
                refine wp_region_grown (Ext.refl w7) (by kernel_rfl) (by kernel_rfl) ?_
                repeat (go_big_quiet_step (first | (go_at_call 16; with_reducible exact Gr.of (KS.out _))))
                refine wpQuiet_nil ?_
                intro gw
                have HG := Lib.hid gw.h
                clear X0 X1 X2 X3 X4 A0 A1 A2 A3 A4
                generalize gw.w = wg at HG ⊢
                go_wp2
                go_roundw
                case rel => exact ⟨j + 1, _, K, P + 1, by go_num, by omega, HS7.out.ext HG.out, by have := HWL.out; have := HSL.out; omega, by go_num, rfl, by have := HKJ.out; omega, by have h := HSC.out; rw [if_pos HSX.out, show cntF 1 = 1 from rfl] at h; have := HP.out; omega, Ext.trans HX7.out HG.out⟩
                case measure => simp [intOf]; omega
              · have HSX := Lib.hid hsx
                have KS : Hid (∀ g : Gr w7, Calls Try.prog 16 #[.agg #[.int .i64 y.a, .int .i64 y.b, .int .i64 y.k, .slice p2 n2 c2, .slice q2 m2 d2], .agg #[.int .i64 x.a, .int .i64 x.b, .int .i64 x.k, .slice p1 n1 c1, .slice q1 m1 d1]] g.w fun e w' => e = .returned (.bool false) ∧ Ext g.w w') := Lib.hid fun g => (by
                  have h := rsame1_any y x p2 n2 c2 q2 m2 d2 p1 n1 c1 q1 m1 d1 g.w (TY.out.ext (Ext.trans HX7.out g.h)) (HM4.out.ext (Ext.trans HX7.out g.h))
                  rwa [decide_eq_false hsx] at h)
                clear hsx x0 x1 x2 x3 x4 x5 x6 a0 a1 a2 a3 a4
                go_wp2
                refine wp_region_grown (Ext.refl w7) (by kernel_rfl) (by kernel_rfl) ?_
                repeat (go_big_quiet_step (first | (go_at_call 16; with_reducible exact Gr.of (KS.out _))))
                refine wpQuiet_nil ?_
                intro gw
                have HG := Lib.hid gw.h
                clear X0 X1 X2 X3 X4 A0 A1 A2 A3 A4
                generalize gw.w = wg at HG ⊢
                go_wp2
                go_roundw
                case rel => exact ⟨j + 1, _, K, P, by go_num, by omega, HS7.out.ext HG.out, by have := HWL.out; have := HSL.out; omega, rfl, rfl, by have := HKJ.out; omega, by have h := HSC.out; rw [if_neg HSX.out, show cntF 1 = 1 from rfl] at h; have := HP.out; omega, Ext.trans HX7.out HG.out⟩
                case measure => simp [intOf]; omega
            · have htm : Int.tmod z 6 = 2 := by rw [htm0, hf]
              clear htm0 hf hzz
              obtain ⟨sc1, sc2⟩ := send_cnt (W := W) (y := y) (f := 2) (by have := HNU.out; have := HNUB.out; omega)
              have HSC := Lib.hid (sc2 x)
              have HSL : Hid ((sendS W y 2).length = W.length + 0) := Lib.hid sc1
              clear sc1 sc2
              have hwn : IntKind.i64.wrap ((nu : Int) + 0) = (nu : Int) := by rw [IntKind.wrap_i64]; have := HNUB.out; omega
              have hwn0 : IntKind.i64.wrap (nu : Int) = (nu : Int) := by rw [IntKind.wrap_i64]; have := HNUB.out; omega
              have hwp : IntKind.i64.wrap ((P : Int) + 0) = (P : Int) := by rw [IntKind.wrap_i64]; have := HPB.out; omega
              have hwp0 : IntKind.i64.wrap (P : Int) = (P : Int) := by rw [IntKind.wrap_i64]; have := HPB.out; omega
              go_wp2_with fail
              refine (send_v pu nu cu W y p2 n2 c2 q2 m2 d2 2 w5 HS5.out (TY.out.ext HZ5.out) (by have := HNUB.out; omega)).mono ?_
              rintro e w7 ⟨⟨v7, rfl, hs7⟩, hx7⟩
              obtain ⟨pt, nt, ct, rfl, hnt⟩ := sl_form hs7
              have HS7 := Lib.hid hs7
              have HX7 := Lib.hid (Ext.trans HZ5.out hx7)
              obtain rfl : nt = nu := by have := HSL.out; have := HNU.out; omega
              clear hs7 hx7 hnt x0 x1 x2 x3 x4 x5 x6
              obtain ⟨x0, x1, x2, x3, x4, x5, x6⟩ := HCY.out w7 HX7.out
              obtain ⟨a0, a1, a2, a3, a4⟩ := box5 (Ext.trans HB4.out HX7.out)
              have X0 : ∀ g : Gr w7, g.w.cell? _ = some _ := fun g => g.cell x0
              have X1 : ∀ g : Gr w7, g.w.cell? _ = some _ := fun g => g.cell x1
              have X2 : ∀ g : Gr w7, g.w.cell? _ = some _ := fun g => g.cell x2
              have X3 : ∀ g : Gr w7, g.w.cell? _ = some _ := fun g => g.cell x3
              have X4 : ∀ g : Gr w7, g.w.cell? _ = some _ := fun g => g.cell x4
              have A0 : ∀ g : Gr w7, g.w.cell? _ = some _ := fun g => g.cell a0
              have A1 : ∀ g : Gr w7, g.w.cell? _ = some _ := fun g => g.cell a1
              have A2 : ∀ g : Gr w7, g.w.cell? _ = some _ := fun g => g.cell a2
              have A3 : ∀ g : Gr w7, g.w.cell? _ = some _ := fun g => g.cell a3
              have A4 : ∀ g : Gr w7, g.w.cell? _ = some _ := fun g => g.cell a4
              by_cases hsx : y = x
              · have HSX := Lib.hid hsx
                have KS : Hid (∀ g : Gr w7, Calls Try.prog 16 #[.agg #[.int .i64 y.a, .int .i64 y.b, .int .i64 y.k, .slice p2 n2 c2, .slice q2 m2 d2], .agg #[.int .i64 x.a, .int .i64 x.b, .int .i64 x.k, .slice p1 n1 c1, .slice q1 m1 d1]] g.w fun e w' => e = .returned (.bool true) ∧ Ext g.w w') := Lib.hid fun g => (by
                  have h := rsame1_any y x p2 n2 c2 q2 m2 d2 p1 n1 c1 q1 m1 d1 g.w (TY.out.ext (Ext.trans HX7.out g.h)) (HM4.out.ext (Ext.trans HX7.out g.h))
                  rwa [decide_eq_true hsx] at h)
                clear hsx x0 x1 x2 x3 x4 x5 x6 a0 a1 a2 a3 a4
                go_wp2
                refine wp_region_grown (Ext.refl w7) (by kernel_rfl) (by kernel_rfl) ?_
                repeat (go_big_quiet_step (first | (go_at_call 16; with_reducible exact Gr.of (KS.out _))))
                refine wpQuiet_nil ?_
                intro gw
                have HG := Lib.hid gw.h
                clear X0 X1 X2 X3 X4 A0 A1 A2 A3 A4
                generalize gw.w = wg at HG ⊢
                go_wp2
                go_roundw
                case rel => exact ⟨j + 1, _, K, P, by go_num, by omega, HS7.out.ext HG.out, by have := HWL.out; have := HSL.out; omega, rfl, rfl, by have := HKJ.out; omega, by have h := HSC.out; rw [if_pos HSX.out, show cntF 2 = 0 from rfl] at h; have := HP.out; omega, Ext.trans HX7.out HG.out⟩
                case measure => simp [intOf]; omega
              · have HSX := Lib.hid hsx
                have KS : Hid (∀ g : Gr w7, Calls Try.prog 16 #[.agg #[.int .i64 y.a, .int .i64 y.b, .int .i64 y.k, .slice p2 n2 c2, .slice q2 m2 d2], .agg #[.int .i64 x.a, .int .i64 x.b, .int .i64 x.k, .slice p1 n1 c1, .slice q1 m1 d1]] g.w fun e w' => e = .returned (.bool false) ∧ Ext g.w w') := Lib.hid fun g => (by
                  have h := rsame1_any y x p2 n2 c2 q2 m2 d2 p1 n1 c1 q1 m1 d1 g.w (TY.out.ext (Ext.trans HX7.out g.h)) (HM4.out.ext (Ext.trans HX7.out g.h))
                  rwa [decide_eq_false hsx] at h)
                clear hsx x0 x1 x2 x3 x4 x5 x6 a0 a1 a2 a3 a4
                go_wp2
                refine wp_region_grown (Ext.refl w7) (by kernel_rfl) (by kernel_rfl) ?_
                repeat (go_big_quiet_step (first | (go_at_call 16; with_reducible exact Gr.of (KS.out _))))
                refine wpQuiet_nil ?_
                intro gw
                have HG := Lib.hid gw.h
                clear X0 X1 X2 X3 X4 A0 A1 A2 A3 A4
                generalize gw.w = wg at HG ⊢
                go_wp2
                go_roundw
                case rel => exact ⟨j + 1, _, K, P, by go_num, by omega, HS7.out.ext HG.out, by have := HWL.out; have := HSL.out; omega, rfl, rfl, by have := HKJ.out; omega, by have h := HSC.out; rw [if_neg HSX.out, show cntF 2 = 0 from rfl] at h; have := HP.out; omega, Ext.trans HX7.out HG.out⟩
                case measure => simp [intOf]; omega
            · have htm : Int.tmod z 6 = 3 := by rw [htm0, hf]
              clear htm0 hf hzz
              obtain ⟨sc1, sc2⟩ := send_cnt (W := W) (y := y) (f := 3) (by have := HNU.out; have := HNUB.out; omega)
              have HSC := Lib.hid (sc2 x)
              have HSL : Hid ((sendS W y 3).length = W.length + 2) := Lib.hid sc1
              clear sc1 sc2
              have hwn : IntKind.i64.wrap ((nu : Int) + 2) = (nu : Int) + 2 := by rw [IntKind.wrap_i64]; have := HNUB.out; omega
              have hwn0 : IntKind.i64.wrap (nu : Int) = (nu : Int) := by rw [IntKind.wrap_i64]; have := HNUB.out; omega
              have hwp : IntKind.i64.wrap ((P : Int) + 2) = (P : Int) + 2 := by rw [IntKind.wrap_i64]; have := HPB.out; omega
              have hwp0 : IntKind.i64.wrap (P : Int) = (P : Int) := by rw [IntKind.wrap_i64]; have := HPB.out; omega
              go_wp2_with fail
              refine (send_v pu nu cu W y p2 n2 c2 q2 m2 d2 3 w5 HS5.out (TY.out.ext HZ5.out) (by have := HNUB.out; omega)).mono ?_
              rintro e w7 ⟨⟨v7, rfl, hs7⟩, hx7⟩
              obtain ⟨pt, nt, ct, rfl, hnt⟩ := sl_form hs7
              have HS7 := Lib.hid hs7
              have HX7 := Lib.hid (Ext.trans HZ5.out hx7)
              obtain rfl : nt = nu + 2 := by have := HSL.out; have := HNU.out; omega
              clear hs7 hx7 hnt x0 x1 x2 x3 x4 x5 x6
              obtain ⟨x0, x1, x2, x3, x4, x5, x6⟩ := HCY.out w7 HX7.out
              obtain ⟨a0, a1, a2, a3, a4⟩ := box5 (Ext.trans HB4.out HX7.out)
              have X0 : ∀ g : Gr w7, g.w.cell? _ = some _ := fun g => g.cell x0
              have X1 : ∀ g : Gr w7, g.w.cell? _ = some _ := fun g => g.cell x1
              have X2 : ∀ g : Gr w7, g.w.cell? _ = some _ := fun g => g.cell x2
              have X3 : ∀ g : Gr w7, g.w.cell? _ = some _ := fun g => g.cell x3
              have X4 : ∀ g : Gr w7, g.w.cell? _ = some _ := fun g => g.cell x4
              have A0 : ∀ g : Gr w7, g.w.cell? _ = some _ := fun g => g.cell a0
              have A1 : ∀ g : Gr w7, g.w.cell? _ = some _ := fun g => g.cell a1
              have A2 : ∀ g : Gr w7, g.w.cell? _ = some _ := fun g => g.cell a2
              have A3 : ∀ g : Gr w7, g.w.cell? _ = some _ := fun g => g.cell a3
              have A4 : ∀ g : Gr w7, g.w.cell? _ = some _ := fun g => g.cell a4
              by_cases hsx : y = x
              · have HSX := Lib.hid hsx
                have KS : Hid (∀ g : Gr w7, Calls Try.prog 16 #[.agg #[.int .i64 y.a, .int .i64 y.b, .int .i64 y.k, .slice p2 n2 c2, .slice q2 m2 d2], .agg #[.int .i64 x.a, .int .i64 x.b, .int .i64 x.k, .slice p1 n1 c1, .slice q1 m1 d1]] g.w fun e w' => e = .returned (.bool true) ∧ Ext g.w w') := Lib.hid fun g => (by
                  have h := rsame1_any y x p2 n2 c2 q2 m2 d2 p1 n1 c1 q1 m1 d1 g.w (TY.out.ext (Ext.trans HX7.out g.h)) (HM4.out.ext (Ext.trans HX7.out g.h))
                  rwa [decide_eq_true hsx] at h)
                clear hsx x0 x1 x2 x3 x4 x5 x6 a0 a1 a2 a3 a4
                go_wp2
                refine wp_region_grown (Ext.refl w7) (by kernel_rfl) (by kernel_rfl) ?_
                repeat (go_big_quiet_step (first | (go_at_call 16; with_reducible exact Gr.of (KS.out _))))
                refine wpQuiet_nil ?_
                intro gw
                have HG := Lib.hid gw.h
                clear X0 X1 X2 X3 X4 A0 A1 A2 A3 A4
                generalize gw.w = wg at HG ⊢
                go_wp2
                go_roundw
                case rel => exact ⟨j + 1, _, K, P + 2, by go_num, by omega, HS7.out.ext HG.out, by have := HWL.out; have := HSL.out; omega, by go_num, rfl, by have := HKJ.out; omega, by have h := HSC.out; rw [if_pos HSX.out, show cntF 3 = 2 from rfl] at h; have := HP.out; omega, Ext.trans HX7.out HG.out⟩
                case measure => simp [intOf]; omega
              · have HSX := Lib.hid hsx
                have KS : Hid (∀ g : Gr w7, Calls Try.prog 16 #[.agg #[.int .i64 y.a, .int .i64 y.b, .int .i64 y.k, .slice p2 n2 c2, .slice q2 m2 d2], .agg #[.int .i64 x.a, .int .i64 x.b, .int .i64 x.k, .slice p1 n1 c1, .slice q1 m1 d1]] g.w fun e w' => e = .returned (.bool false) ∧ Ext g.w w') := Lib.hid fun g => (by
                  have h := rsame1_any y x p2 n2 c2 q2 m2 d2 p1 n1 c1 q1 m1 d1 g.w (TY.out.ext (Ext.trans HX7.out g.h)) (HM4.out.ext (Ext.trans HX7.out g.h))
                  rwa [decide_eq_false hsx] at h)
                clear hsx x0 x1 x2 x3 x4 x5 x6 a0 a1 a2 a3 a4
                go_wp2
                refine wp_region_grown (Ext.refl w7) (by kernel_rfl) (by kernel_rfl) ?_
                repeat (go_big_quiet_step (first | (go_at_call 16; with_reducible exact Gr.of (KS.out _))))
                refine wpQuiet_nil ?_
                intro gw
                have HG := Lib.hid gw.h
                clear X0 X1 X2 X3 X4 A0 A1 A2 A3 A4
                generalize gw.w = wg at HG ⊢
                go_wp2
                go_roundw
                case rel => exact ⟨j + 1, _, K, P, by go_num, by omega, HS7.out.ext HG.out, by have := HWL.out; have := HSL.out; omega, rfl, rfl, by have := HKJ.out; omega, by have h := HSC.out; rw [if_neg HSX.out, show cntF 3 = 2 from rfl] at h; have := HP.out; omega, Ext.trans HX7.out HG.out⟩
                case measure => simp [intOf]; omega
            · have htm : Int.tmod z 6 = 4 := by rw [htm0, hf]
              clear htm0 hf hzz
              obtain ⟨sc1, sc2⟩ := send_cnt (W := W) (y := y) (f := 4) (by have := HNU.out; have := HNUB.out; omega)
              have HSC := Lib.hid (sc2 x)
              have HSL : Hid ((sendS W y 4).length = W.length + 1) := Lib.hid sc1
              clear sc1 sc2
              have hwn : IntKind.i64.wrap ((nu : Int) + 1) = (nu : Int) + 1 := by rw [IntKind.wrap_i64]; have := HNUB.out; omega
              have hwn0 : IntKind.i64.wrap (nu : Int) = (nu : Int) := by rw [IntKind.wrap_i64]; have := HNUB.out; omega
              have hwp : IntKind.i64.wrap ((P : Int) + 1) = (P : Int) + 1 := by rw [IntKind.wrap_i64]; have := HPB.out; omega
              have hwp0 : IntKind.i64.wrap (P : Int) = (P : Int) := by rw [IntKind.wrap_i64]; have := HPB.out; omega
              go_wp2_with fail
              refine (send_v pu nu cu W y p2 n2 c2 q2 m2 d2 4 w5 HS5.out (TY.out.ext HZ5.out) (by have := HNUB.out; omega)).mono ?_
              rintro e w7 ⟨⟨v7, rfl, hs7⟩, hx7⟩
              obtain ⟨pt, nt, ct, rfl, hnt⟩ := sl_form hs7
              have HS7 := Lib.hid hs7
              have HX7 := Lib.hid (Ext.trans HZ5.out hx7)
              obtain rfl : nt = nu + 1 := by have := HSL.out; have := HNU.out; omega
              clear hs7 hx7 hnt x0 x1 x2 x3 x4 x5 x6
              obtain ⟨x0, x1, x2, x3, x4, x5, x6⟩ := HCY.out w7 HX7.out
              obtain ⟨a0, a1, a2, a3, a4⟩ := box5 (Ext.trans HB4.out HX7.out)
              have X0 : ∀ g : Gr w7, g.w.cell? _ = some _ := fun g => g.cell x0
              have X1 : ∀ g : Gr w7, g.w.cell? _ = some _ := fun g => g.cell x1
              have X2 : ∀ g : Gr w7, g.w.cell? _ = some _ := fun g => g.cell x2
              have X3 : ∀ g : Gr w7, g.w.cell? _ = some _ := fun g => g.cell x3
              have X4 : ∀ g : Gr w7, g.w.cell? _ = some _ := fun g => g.cell x4
              have A0 : ∀ g : Gr w7, g.w.cell? _ = some _ := fun g => g.cell a0
              have A1 : ∀ g : Gr w7, g.w.cell? _ = some _ := fun g => g.cell a1
              have A2 : ∀ g : Gr w7, g.w.cell? _ = some _ := fun g => g.cell a2
              have A3 : ∀ g : Gr w7, g.w.cell? _ = some _ := fun g => g.cell a3
              have A4 : ∀ g : Gr w7, g.w.cell? _ = some _ := fun g => g.cell a4
              by_cases hsx : y = x
              · have HSX := Lib.hid hsx
                have KS : Hid (∀ g : Gr w7, Calls Try.prog 16 #[.agg #[.int .i64 y.a, .int .i64 y.b, .int .i64 y.k, .slice p2 n2 c2, .slice q2 m2 d2], .agg #[.int .i64 x.a, .int .i64 x.b, .int .i64 x.k, .slice p1 n1 c1, .slice q1 m1 d1]] g.w fun e w' => e = .returned (.bool true) ∧ Ext g.w w') := Lib.hid fun g => (by
                  have h := rsame1_any y x p2 n2 c2 q2 m2 d2 p1 n1 c1 q1 m1 d1 g.w (TY.out.ext (Ext.trans HX7.out g.h)) (HM4.out.ext (Ext.trans HX7.out g.h))
                  rwa [decide_eq_true hsx] at h)
                clear hsx x0 x1 x2 x3 x4 x5 x6 a0 a1 a2 a3 a4
                go_wp2
                refine wp_region_grown (Ext.refl w7) (by kernel_rfl) (by kernel_rfl) ?_
                repeat (go_big_quiet_step (first | (go_at_call 16; with_reducible exact Gr.of (KS.out _))))
                refine wpQuiet_nil ?_
                intro gw
                have HG := Lib.hid gw.h
                clear X0 X1 X2 X3 X4 A0 A1 A2 A3 A4
                generalize gw.w = wg at HG ⊢
                go_wp2
                go_roundw
                case rel => exact ⟨j + 1, _, K, P + 1, by go_num, by omega, HS7.out.ext HG.out, by have := HWL.out; have := HSL.out; omega, by go_num, rfl, by have := HKJ.out; omega, by have h := HSC.out; rw [if_pos HSX.out, show cntF 4 = 1 from rfl] at h; have := HP.out; omega, Ext.trans HX7.out HG.out⟩
                case measure => simp [intOf]; omega
              · have HSX := Lib.hid hsx
                have KS : Hid (∀ g : Gr w7, Calls Try.prog 16 #[.agg #[.int .i64 y.a, .int .i64 y.b, .int .i64 y.k, .slice p2 n2 c2, .slice q2 m2 d2], .agg #[.int .i64 x.a, .int .i64 x.b, .int .i64 x.k, .slice p1 n1 c1, .slice q1 m1 d1]] g.w fun e w' => e = .returned (.bool false) ∧ Ext g.w w') := Lib.hid fun g => (by
                  have h := rsame1_any y x p2 n2 c2 q2 m2 d2 p1 n1 c1 q1 m1 d1 g.w (TY.out.ext (Ext.trans HX7.out g.h)) (HM4.out.ext (Ext.trans HX7.out g.h))
                  rwa [decide_eq_false hsx] at h)
                clear hsx x0 x1 x2 x3 x4 x5 x6 a0 a1 a2 a3 a4
                go_wp2
                refine wp_region_grown (Ext.refl w7) (by kernel_rfl) (by kernel_rfl) ?_
                repeat (go_big_quiet_step (first | (go_at_call 16; with_reducible exact Gr.of (KS.out _))))
                refine wpQuiet_nil ?_
                intro gw
                have HG := Lib.hid gw.h
                clear X0 X1 X2 X3 X4 A0 A1 A2 A3 A4
                generalize gw.w = wg at HG ⊢
                go_wp2
                go_roundw
                case rel => exact ⟨j + 1, _, K, P, by go_num, by omega, HS7.out.ext HG.out, by have := HWL.out; have := HSL.out; omega, rfl, rfl, by have := HKJ.out; omega, by have h := HSC.out; rw [if_neg HSX.out, show cntF 4 = 1 from rfl] at h; have := HP.out; omega, Ext.trans HX7.out HG.out⟩
                case measure => simp [intOf]; omega
            · have htm : Int.tmod z 6 = 5 := by rw [htm0, hf]
              clear htm0 hf hzz
              obtain ⟨sc1, sc2⟩ := send_cnt (W := W) (y := y) (f := 5) (by have := HNU.out; have := HNUB.out; omega)
              have HSC := Lib.hid (sc2 x)
              have HSL : Hid ((sendS W y 5).length = W.length + 0) := Lib.hid sc1
              clear sc1 sc2
              have hwn : IntKind.i64.wrap ((nu : Int) + 0) = (nu : Int) := by rw [IntKind.wrap_i64]; have := HNUB.out; omega
              have hwn0 : IntKind.i64.wrap (nu : Int) = (nu : Int) := by rw [IntKind.wrap_i64]; have := HNUB.out; omega
              have hwp : IntKind.i64.wrap ((P : Int) + 0) = (P : Int) := by rw [IntKind.wrap_i64]; have := HPB.out; omega
              have hwp0 : IntKind.i64.wrap (P : Int) = (P : Int) := by rw [IntKind.wrap_i64]; have := HPB.out; omega
              go_wp2_with fail
              refine (send_v pu nu cu W y p2 n2 c2 q2 m2 d2 5 w5 HS5.out (TY.out.ext HZ5.out) (by have := HNUB.out; omega)).mono ?_
              rintro e w7 ⟨⟨v7, rfl, hs7⟩, hx7⟩
              obtain ⟨pt, nt, ct, rfl, hnt⟩ := sl_form hs7
              have HS7 := Lib.hid hs7
              have HX7 := Lib.hid (Ext.trans HZ5.out hx7)
              obtain rfl : nt = nu := by have := HSL.out; have := HNU.out; omega
              clear hs7 hx7 hnt x0 x1 x2 x3 x4 x5 x6
              obtain ⟨x0, x1, x2, x3, x4, x5, x6⟩ := HCY.out w7 HX7.out
              obtain ⟨a0, a1, a2, a3, a4⟩ := box5 (Ext.trans HB4.out HX7.out)
              have X0 : ∀ g : Gr w7, g.w.cell? _ = some _ := fun g => g.cell x0
              have X1 : ∀ g : Gr w7, g.w.cell? _ = some _ := fun g => g.cell x1
              have X2 : ∀ g : Gr w7, g.w.cell? _ = some _ := fun g => g.cell x2
              have X3 : ∀ g : Gr w7, g.w.cell? _ = some _ := fun g => g.cell x3
              have X4 : ∀ g : Gr w7, g.w.cell? _ = some _ := fun g => g.cell x4
              have A0 : ∀ g : Gr w7, g.w.cell? _ = some _ := fun g => g.cell a0
              have A1 : ∀ g : Gr w7, g.w.cell? _ = some _ := fun g => g.cell a1
              have A2 : ∀ g : Gr w7, g.w.cell? _ = some _ := fun g => g.cell a2
              have A3 : ∀ g : Gr w7, g.w.cell? _ = some _ := fun g => g.cell a3
              have A4 : ∀ g : Gr w7, g.w.cell? _ = some _ := fun g => g.cell a4
              by_cases hsx : y = x
              · have HSX := Lib.hid hsx
                have KS : Hid (∀ g : Gr w7, Calls Try.prog 16 #[.agg #[.int .i64 y.a, .int .i64 y.b, .int .i64 y.k, .slice p2 n2 c2, .slice q2 m2 d2], .agg #[.int .i64 x.a, .int .i64 x.b, .int .i64 x.k, .slice p1 n1 c1, .slice q1 m1 d1]] g.w fun e w' => e = .returned (.bool true) ∧ Ext g.w w') := Lib.hid fun g => (by
                  have h := rsame1_any y x p2 n2 c2 q2 m2 d2 p1 n1 c1 q1 m1 d1 g.w (TY.out.ext (Ext.trans HX7.out g.h)) (HM4.out.ext (Ext.trans HX7.out g.h))
                  rwa [decide_eq_true hsx] at h)
                clear hsx x0 x1 x2 x3 x4 x5 x6 a0 a1 a2 a3 a4
                go_wp2
                refine wp_region_grown (Ext.refl w7) (by kernel_rfl) (by kernel_rfl) ?_
                repeat (go_big_quiet_step (first | (go_at_call 16; with_reducible exact Gr.of (KS.out _))))
                refine wpQuiet_nil ?_
                intro gw
                have HG := Lib.hid gw.h
                clear X0 X1 X2 X3 X4 A0 A1 A2 A3 A4
                generalize gw.w = wg at HG ⊢
                go_wp2
                go_roundw
                case rel => exact ⟨j + 1, _, K, P, by go_num, by omega, HS7.out.ext HG.out, by have := HWL.out; have := HSL.out; omega, rfl, rfl, by have := HKJ.out; omega, by have h := HSC.out; rw [if_pos HSX.out, show cntF 5 = 0 from rfl] at h; have := HP.out; omega, Ext.trans HX7.out HG.out⟩
                case measure => simp [intOf]; omega
              · have HSX := Lib.hid hsx
                have KS : Hid (∀ g : Gr w7, Calls Try.prog 16 #[.agg #[.int .i64 y.a, .int .i64 y.b, .int .i64 y.k, .slice p2 n2 c2, .slice q2 m2 d2], .agg #[.int .i64 x.a, .int .i64 x.b, .int .i64 x.k, .slice p1 n1 c1, .slice q1 m1 d1]] g.w fun e w' => e = .returned (.bool false) ∧ Ext g.w w') := Lib.hid fun g => (by
                  have h := rsame1_any y x p2 n2 c2 q2 m2 d2 p1 n1 c1 q1 m1 d1 g.w (TY.out.ext (Ext.trans HX7.out g.h)) (HM4.out.ext (Ext.trans HX7.out g.h))
                  rwa [decide_eq_false hsx] at h)
                clear hsx x0 x1 x2 x3 x4 x5 x6 a0 a1 a2 a3 a4
                go_wp2
                refine wp_region_grown (Ext.refl w7) (by kernel_rfl) (by kernel_rfl) ?_
                repeat (go_big_quiet_step (first | (go_at_call 16; with_reducible exact Gr.of (KS.out _))))
                refine wpQuiet_nil ?_
                intro gw
                have HG := Lib.hid gw.h
                clear X0 X1 X2 X3 X4 A0 A1 A2 A3 A4
                generalize gw.w = wg at HG ⊢
                go_wp2
                go_roundw
                case rel => exact ⟨j + 1, _, K, P, by go_num, by omega, HS7.out.ext HG.out, by have := HWL.out; have := HSL.out; omega, rfl, rfl, by have := HKJ.out; omega, by have h := HSC.out; rw [if_neg HSX.out, show cntF 5 = 0 from rfl] at h; have := HP.out; omega, Ext.trans HX7.out HG.out⟩
                case measure => simp [intOf]; omega
          · go_wp2
            go_ret
            exact ⟨rfl, Ext.trans HW4.out HZ5.out⟩
        · obtain rfl : n = j := by omega
          have hlt' : ¬ (n : Int) < (n : Int) := by omega
          obtain ⟨a0, a1, a2, a3, a4⟩ := box5 (Ext.trans HB4.out HX.out)
          have hwp : IntKind.i64.wrap ((K : Int) + (manyL W x : Int)) = (P : Int) := by rw [HP.out, IntKind.wrap_i64]; omega
          clear hx hs hp hnu hml
          go_wp2_with fail
          refine (rmany_any pu nu cu W x p1 n1 c1 q1 m1 d1 wr (sl_row HS.out) (HM4.out.ext HX.out) (by have := HNU.out; omega)).mono ?_
          rintro e w6 ⟨rfl, hx6⟩
          have HX6 := Lib.hid (Ext.trans HX.out hx6)
          clear hx6 a0 a1 a2 a3 a4
          go_wp2
          go_ret
          exact ⟨rfl, Ext.trans HW4.out HX6.out⟩
    · go_wp2
      go_ret
      exact ⟨rfl, HW4.out⟩
end Go.Proofs.Ytifbmkcfgpfefaa.Wi
