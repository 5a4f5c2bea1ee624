/- Written bytes: the law's back; the walk of WriteBack. -/
import Derived.Test.YtcajmgdenhegjaaWrY
import Derived.Test.YtcajmgdenhegjaaWrE
namespace Go.Proofs.Ytcajmgdenhegjaa.Wr
open Go.RowKit Go.Proofs.Ytcajmgdenhegjaa
set_option linter.unusedVariables false

theorem allR_drop {l : List Pc} (h : AllR l) (k : Nat) : AllR (l.drop k) := fun x hx => h x (List.mem_of_mem_drop hx)
theorem allR_take {l : List Pc} (h : AllR l) (k : Nat) : AllR (l.take k) := fun x hx => h x (List.mem_of_mem_take hx)
def RBack (w0 : World) (l : List Pc) (m : Int) (F : List Int) (N : Nat) (o r i : Value) (wr : World) : Prop :=
  ∃ j : Nat, i = .int .i64 j ∧ j ≤ N ∧ (Lay.int .u8).Sl wr o (seeL (l.take j) m F) ∧ LPc.Sl wr r (l.drop j) ∧ Ext w0 wr
set_option maxRecDepth 100000 in
set_option maxHeartbeats 4000000 in
theorem back_v (v0 : Value) (l : List Pc) (m : Int) (u : Value) (F : List Int) (N : Nat) (w : World) (hl : LPc.Sl w v0 l) (hr : AllR l) (hu : (Lay.int .u8).Sl w u F) (hF : F.length ≤ 4096) (hN : N ≤ l.length) (hb : l.length ≤ 1000) :
    Calls Try.prog 27 #[v0, .int .i64 m, u, .int .i64 N] w fun e w' => (∃ v r, e = .returned (.tuple #[v, r]) ∧ (Lay.int .u8).Sl w' v (seeL (l.take N) m F) ∧ LPc.Sl w' r (l.drop N)) ∧ Ext w w' := by
  have HL := Lib.hid hl
  have HR := Lib.hid hr
  have HU := Lib.hid hu
  have HF := Lib.hid hF
  have HN := Lib.hid hN
  have hNb : N ≤ 1000 := by omega
  clear hl hr hu hF hN
  go_enter Try.func27, Try.ntmps27
  go_wp2
  go_loopw [10, 11, 12] (fun o r i wr => RBack w l m F N o r i wr) (fun o r i _ => N - (intOf i).toNat)
  case atStart => exact ⟨0, rfl, by omega, HU.out, HL.out, Ext.refl _⟩
  case round =>
    obtain ⟨j, rfl, hj, ho, hrr, hx⟩ := hrel
    have HO := Lib.hid ho
    have HX := Lib.hid hx
    have HRR := Lib.hid hrr
    by_cases hlt : j < N
    · have hlt' : (j : Int) < (N : Int) := by omega
      obtain ⟨x, gx⟩ : ∃ x, l[j]? = some x := ⟨_, List.getElem?_eq_getElem (by have := HN.out; omega)⟩
      have hdr : l.drop j = x :: l.drop (j + 1) := by
        rw [List.drop_eq_getElem_cons (List.getElem?_eq_some_iff.1 gx).1]; congr 1; exact (List.getElem?_eq_some_iff.1 gx).2
      have HDR := Lib.hid hdr
      have GX := Lib.hid gx
      have HXR := Lib.hid (HR.out x (List.mem_of_getElem? gx))
      obtain ⟨pl, nl, cl, rfl, hn9⟩ := sl_form hrr
      clear ho hrr hx gx hdr hn9
      go_wp2_with fail
      refine (next_v pl nl cl (l.drop j) _ HRR.out).mono ?_
      rintro e w2 ⟨hnx, hx2⟩
      obtain ⟨px, nx, cx, ps, ns, cs, rfl, htx, hsl⟩ := hnx.2 x _ HDR.out
      have HTX := Lib.hid htx
      have HSL := Lib.hid hsl
      have hxA : Ext w2 (w2.alloc (.cells #[.int .i64 x.i, .int .i64 x.f, .slice px nx cx] 30)) := Ext.alloc _ _
      have HX2 := Lib.hid (Ext.trans HX.out (Ext.trans hx2 hxA))
      have HXA := Lib.hid hxA
      have HO2 := Lib.hid (HO.out.ext (Ext.trans hx2 hxA))
      clear hnx htx hsl hx2 hxA
      by_cases hi : x.i = m
      · have HI := Lib.hid hi
        have hib : (x.i == m) = true := by simp [hi]
        have hib2 : decide (x.i = m) = true := decide_eq_true hi
        clear hi
        go_wp2_with fail
        have hlen : (seeL (l.take j) m F).length ≤ 10000 := by
          have := see_len m F (l.take j) (allR_take HR.out j)
          have := HF.out
          omega
        refine (lay_v u10 (seeL (l.take j) m F) x.d x.f px nx cx _ HO2.out (Lay.Sl.ext (Lay.Sl.mk HTX.out.row HTX.out.nc HTX.out.cm HTX.out.pl) HXA.out) hlen HTX.out.wb).mono ?_
        rintro e w3 ⟨⟨v3, c3, rfl, h1, h2, h3⟩, hx3⟩
        obtain ⟨rfl, ho3⟩ := h3 HXR.out.2.1 (fun _ => HXR.out.2.2.2)
        have HO3 : Hid ((Lay.int .u8).Sl w3 v3 (seeL (l.take (j + 1)) m F)) := Lib.hid (by
          rw [see_succ GX.out, if_pos HI.out]
          have e : layP (seeL (l.take j) m F) x = rlaidL (seeL (l.take j) m F) x.f.toNat x.d := (rlaid_ne _ _ HXR.out.2.2.1).symm
          rw [e]; exact ho3.sl)
        have HS3 := Lib.hid ((HSL.out.ext HXA.out).ext hx3)
        have HX3 := Lib.hid (Ext.trans HX2.out hx3)
        clear h1 h2 h3 ho3 hx3 hlen
        go_wp2
        go_roundw
        case rel => exact ⟨j + 1, by go_num, by omega, HO3.out, HS3.out, HX3.out⟩
        case measure => simp [intOf]; omega
      · have HI := Lib.hid hi
        have hib : (x.i == m) = false := by simp [hi]
        have hib2 : decide (x.i = m) = false := decide_eq_false hi
        have HS3 := Lib.hid (HSL.out.ext HXA.out)
        clear hi
        go_wp2
        go_roundw
        case rel => exact ⟨j + 1, by go_num, by omega, by rw [see_succ GX.out, if_neg HI.out]; exact HO2.out, HS3.out, HX2.out⟩
        case measure => simp [intOf]; omega
    · obtain rfl : j = N := by omega
      clear ho hrr hx
      go_wp2
      go_ret2
      exact ⟨⟨_, _, rfl, HO.out, HRR.out⟩, HX.out⟩

def RWb (w0 : World) (n : Nat) (i : Value) (wr : World) : Prop := ∃ k : Nat, i = .int .i64 k ∧ k ≤ n + 1 ∧ Ext w0 wr
set_option maxRecDepth 100000 in
set_option maxHeartbeats 4000000 in
theorem wback_walk {v0 u : Value} {l : List Pc} {m : Int} {F : List Int} {w : World} (hl : LPc.Sl w v0 l) (hu : (Lay.int .u8).Sl w u F) : Calls Try.prog 6 #[v0, .int .i64 m, u] w fun e w' => e = .returned (.bool true) ∧ Ext w w' := by
  obtain ⟨p, n, c, rfl, hn⟩ := sl_form hl
  obtain ⟨q, nf, cf, rfl, hnf⟩ := sl_form hu
  have HL := Lib.hid hl
  have HU := Lib.hid hu
  have HNL := Lib.hid hn
  have HNF := Lib.hid hnf
  clear hl hu hn hnf
  go_enter Try.func6, Try.ntmps6
  go_wp2_with fail
  refine (head_v _).mono ?_
  rintro e w1 ⟨rfl, hx1⟩
  have HX1 := Lib.hid hx1
  clear hx1
  go_wp2_with fail
  refine (fits_any p n c l w1 (sl_row (HL.out.ext HX1.out))).mono ?_
  rintro e w2 ⟨⟨b, rfl, hb⟩, hx2⟩
  have HX2 := Lib.hid (Ext.trans HX1.out hx2)
  cases b with
  | false =>
    clear hx2 hb
    go_wp2
    go_ret
    exact ⟨rfl, HX2.out⟩
  | true =>
    obtain ⟨h30, hall, _⟩ := hb.1 rfl
    have HR := Lib.hid hall
    have hn30 : n ≤ 30 := by rw [HNL.out]; exact h30
    clear hx2 hb h30 hall
    by_cases hf : 4096 < nf
    · have hf' : (4096 : Int) < (nf : Int) := by omega
      go_wp2
      go_ret
      exact ⟨rfl, HX2.out⟩
    · have hf' : ¬ (4096 : Int) < (nf : Int) := by omega
      have HFL : Hid (F.length ≤ 4096) := Lib.hid (by rw [← HNF.out]; omega)
      go_wp2_with fail
      refine (csee_v _ F p n c l m w2 (HU.out.ext HX2.out) (sl_row (HL.out.ext HX2.out)) HR.out (by omega) (by have := HFL.out; omega)).mono ?_
      rintro e w3 ⟨⟨v, rfl, hs⟩, hx3⟩
      obtain ⟨pw, nw, cw, rfl⟩ := own_form hs
      have HW := Lib.hid hs.sl
      have HX3 := Lib.hid (Ext.trans HX2.out hx3)
      clear hs hx3
      go_wp2
      go_loopw [9] (fun i wr => RWb w3 n i wr) (fun i _ => n + 1 - (intOf i).toNat)
      case atStart => exact ⟨0, rfl, by omega, Ext.refl _⟩
      case round =>
        obtain ⟨k, rfl, hk, hx⟩ := hrel
        have HX := Lib.hid hx
        by_cases hle : k ≤ n
        · have hle' : (k : Int) ≤ (n : Int) := by omega
          clear hx
          go_wp2_with fail
          refine (back_v _ l m _ F k wr (HL.out.ext (Ext.trans HX3.out HX.out)) HR.out (HU.out.ext (Ext.trans HX3.out HX.out)) HFL.out (by rw [← HNL.out]; exact hle) (by rw [← HNL.out]; omega)).mono ?_
          rintro e w4 ⟨⟨va, vr, rfl, ha, hr4⟩, hx4⟩
          obtain ⟨pa, na, ca, rfl, hn9⟩ := sl_form ha
          obtain ⟨pr, nr, cr, rfl, hn8⟩ := sl_form hr4
          have hnr : nr = n - k := by rw [hn8, List.length_drop, HNL.out]
          have hnr' : (n : Int) - (k : Int) = (nr : Int) := by omega
          have hnr2 : ((nr : Int) != (nr : Int)) = false := by simp
          have hlenA : (seeL (l.take k) m F).length ≤ 10000 := by
            have := see_len m F (l.take k) (allR_take HR.out k)
            have := HFL.out
            omega
          have HAL := Lib.hid hlenA
          have HA := Lib.hid ha
          have HRR := Lib.hid hr4
          have HX4 := Lib.hid (Ext.trans HX.out hx4)
          have hnrb : nr ≤ 1000 := by omega
          have HW4 := Lib.hid (HW.out.ext HX4.out)
          clear ha hr4 hx4 hn9 hn8 hlenA hnr
          go_wp2_with fail
          refine (csee_v _ (seeL (l.take k) m F) pr nr cr (l.drop k) m w4 HA.out (sl_row HRR.out) (allR_drop HR.out k) hnrb HAL.out).mono ?_
          rintro e w5 ⟨⟨v, rfl, hs⟩, hx5⟩
          rw [back_see] at hs
          obtain ⟨p5, n5, c5, rfl⟩ := own_form hs
          have HS := Lib.hid hs.sl
          have HX5 := Lib.hid hx5
          clear hs hx5
          go_wp2_with fail
          refine (rbytes_t (sl_row HS.out) (sl_row (HW4.out.ext HX5.out)) rfl).mono ?_
          rintro e w6 ⟨rfl, hx6⟩
          have HX6 := Lib.hid (Ext.trans HX5.out hx6)
          clear hx6
          by_cases he : k = n
          · subst he
            have hta : l.take k = l := List.take_of_length_le (by rw [← HNL.out]; omega)
            rw [hta] at HA
            have HA6 := Lib.hid (HA.out.ext HX6.out)
            have HW6 := Lib.hid (HW4.out.ext HX6.out)
            clear hta
            go_wp2_with fail
            refine (rbytes_t (sl_row HA6.out) (sl_row HW6.out) rfl).mono ?_
            rintro e w7 ⟨rfl, hx7⟩
            have HX7 := Lib.hid (Ext.trans HX4.out (Ext.trans HX6.out hx7))
            clear hx7
            go_wp2
            go_roundw
            case rel => exact ⟨k + 1, by go_num, by omega, HX7.out⟩
            case measure => simp [intOf]
          · have he' : ¬ (k : Int) = (n : Int) := by omega
            have he2 : ((k : Int) == (n : Int)) = false := by simp; omega
            have HX7 := Lib.hid (Ext.trans HX4.out HX6.out)
            go_wp2
            go_roundw
            case rel => exact ⟨k + 1, by go_num, by omega, HX7.out⟩
            case measure => simp [intOf]; omega
        · have hle' : ¬ (k : Int) ≤ (n : Int) := by omega
          clear hx
          go_wp2
          go_ret
          exact ⟨rfl, Ext.trans HX3.out HX.out⟩
end Go.Proofs.Ytcajmgdenhegjaa.Wr
