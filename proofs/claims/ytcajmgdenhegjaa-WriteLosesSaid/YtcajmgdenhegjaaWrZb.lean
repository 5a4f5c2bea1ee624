/- Written bytes: the walk of WriteLoses. -/
import Derived.Test.YtcajmgdenhegjaaWrZ
import Derived.Deep.RegionHeld3
namespace Go.Proofs.Ytcajmgdenhegjaa.Wr
open Go.RowKit Go.Proofs.Ytcajmgdenhegjaa
set_option linter.unusedVariables false

/-- what is dirty when all of a row were put -/
structure Wrote (F : List Int) (m : Int) (ws l : List Pc) : Prop where
  beg : Begins F m ws l
  all : AllR l
  len : l.length ≤ ws.length
theorem wrote_nil (F : List Int) (m : Int) : Wrote F m [] [] := ⟨begins_nil F m, fun x hx => by simp at hx, by simp⟩
theorem wrote_put {F : List Int} {m : Int} {ws l l' : List Pc} {x : Pc} (h : Wrote F m ws l) (hx : x.Right) (hp : PutS l x l') : Wrote F m (ws ++ [x]) l' :=
  ⟨begins_put h.beg h.all hx hp, hp.right h.all, by have := hp.len; have := h.len; simp; omega⟩
def RPut1 (w0 : World) (ws : List Pc) (F : List Int) (m : Int) (n : Nat) (o i : Value) (wr : World) : Prop :=
  ∃ (j : Nat) (l : List Pc), i = .int .i64 j ∧ j ≤ n ∧ LPc.Sl wr o l ∧ Wrote F m (ws.take j) l ∧ Ext w0 wr
def RLook (w0 : World) (ws : List Pc) (F : List Int) (m : Int) (n t : Nat) (o i : Value) (wr : World) : Prop :=
  ∃ j : Nat, i = .int .i64 j ∧ j ≤ n ∧ (Lay.int .u8).Sl wr o (seeL (ws.take j) m F) ∧ (∀ s, s ≤ j → seeL (ws.take s) m F ≠ seeL (ws.take t) m F) ∧ Ext w0 wr
set_option maxRecDepth 100000 in
set_option maxHeartbeats 8000000 in
theorem wloses_walk {v0 u : Value} {ws : List Pc} {m N : Int} {F : List Int} {w : World} (hl : LPc.Sl w v0 ws) (hN : (Lit.int .u8 N).wf = true) (hu : (Lay.int .u8).Sl w u F) : Calls Try.prog 7 #[v0, .int .u8 N, u, .int .i64 m] w fun e w' => e = .returned (.bool true) ∧ Ext w w' := by
  obtain ⟨p, n, c, rfl, hn⟩ := sl_form hl
  obtain ⟨q, nf, cf, rfl, hnf⟩ := sl_form hu
  have hN0 : 0 ≤ N ∧ N ≤ 255 := by
    simp [Lit.wf, IntKind.min, IntKind.max, IntKind.signed, IntKind.bits] at hN
    exact hN
  obtain ⟨N1, rfl⟩ : ∃ k : Nat, N = (k : Int) := ⟨N.toNat, by omega⟩
  have hN1 : N1 ≤ 255 := by omega
  have HL := Lib.hid hl
  have HU := Lib.hid hu
  have HNL := Lib.hid hn
  have HNF := Lib.hid hnf
  clear hl hu hn hnf hN hN0
  go_enter Try.func7, Try.ntmps7
  go_wp2_with fail
  refine (head_v _).mono ?_
  rintro e w1 ⟨rfl, hx1⟩
  have HX1 := Lib.hid hx1
  clear hx1
  go_wp2_with fail
  refine (fits_any p n c ws w1 (sl_row (HL.out.ext HX1.out))).mono ?_
  rintro e w2 ⟨⟨b, rfl, hb⟩, hx2⟩
  have HX2 := Lib.hid (Ext.trans HX1.out hx2)
  cases b with
  | false =>
    clear hx2 hb
    go_wp2
    go_ret
    exact ⟨rfl, HX2.out⟩
  | true =>
    obtain ⟨h30, hall, _⟩ := hb.1 rfl
    have HR := Lib.hid hall
    have hn30 : n ≤ 30 := by rw [HNL.out]; exact h30
    clear hx2 hb h30 hall
    by_cases hf : 4096 < nf
    · have hf' : (4096 : Int) < (nf : Int) := by omega
      go_wp2
      go_ret
      exact ⟨rfl, HX2.out⟩
    · have hf' : ¬ (4096 : Int) < (nf : Int) := by omega
      have HFL : Hid (F.length ≤ 4096) := Lib.hid (by rw [← HNF.out]; omega)
      have HO0 : Hid (LPc.Sl (w2.alloc (.cells #[] 30)) (.slice (some ⟨w2.heap.size, 0, none⟩) 0 0) []) := Lib.hid (Lay.Own.made w2 #[] 0 w2.heap.size 30 (Nat.le_refl _) (by decide) rfl).sl
      have HXA := Lib.hid (Ext.trans HX2.out (Ext.alloc w2 (.cells #[] 30)))
      go_wp2
      go_loopw [10, 11] (fun o i wr => RPut1 w ws F m n o i wr) (fun o i _ => n - (intOf i).toNat)
      case atStart => exact ⟨0, [], rfl, by omega, HO0.out, wrote_nil F m, HXA.out⟩
      case round =>
        obtain ⟨j, l, rfl, hj, ho, hwr, hx⟩ := hrel
        have HX := Lib.hid hx
        have HO := Lib.hid ho
        have HWR := Lib.hid hwr
        obtain ⟨po, no, co, rfl, hno⟩ := sl_form ho
        have HNO := Lib.hid hno
        have hno30 : no ≤ 30 := by have := hwr.len; rw [List.length_take] at this; omega
        have hnoj : no ≤ j := by have := hwr.len; rw [List.length_take] at this; omega
        by_cases hlt : j < n
        · have hlt' : (j : Int) < (n : Int) := by omega
          have hlt0 : (0 : Int) ≤ (j : Int) := by omega
          obtain ⟨x, gx⟩ : ∃ x, ws[j]? = some x := ⟨_, List.getElem?_eq_getElem (by rw [← HNL.out]; exact hlt)⟩
          obtain ⟨b, off, p1, n1, c1, rfl, x0, x1, x2, tx⟩ := pc_at (sl_row HL.out) gx
          replace x0 := hx.cell x0
          replace x1 := hx.cell x1
          replace x2 := hx.cell x2
          have GX := Lib.hid gx
          have HT := Lib.hid tx
          have HXR := Lib.hid (HR.out x (List.mem_of_getElem? gx))
          have hdl : x.d.length ≤ 100000 := by
            have h1 := HXR.out.2.2.2
            have h2 := HXR.out.2.1
            unfold Pc.e at h1
            omega
          have HC : Hid (∀ W, Ext wr W → Calls Try.prog 15 #[.slice po no co, .int .i64 x.i, .int .i64 x.f, .slice p1 n1 c1] W fun e w' => (∃ v l', e = .returned v ∧ LPc.Sl w' v l' ∧ PutS l x l') ∧ Ext W w') := Lib.hid fun W hW =>
            put_v po no co l x.i x.f _ x.d W (HO.out.ext hW) HWR.out.all (by omega) (Lay.Sl.ext (Lay.Sl.mk HT.out.row HT.out.nc HT.out.cm HT.out.pl) (Ext.trans HX.out hW)) hdl HT.out.wa HT.out.wb
          have HS : Hid (∀ w', Ext wr w' → w'.cell? ⟨b, off + j * 3, none⟩ = some (.int .i64 x.i) ∧ w'.cell? ⟨b, off + j * 3 + 1, none⟩ = some (.int .i64 x.f) ∧ w'.cell? ⟨b, off + j * 3 + 2, none⟩ = some (.slice p1 n1 c1)) := Lib.hid fun w' h => ⟨h.cell x0, h.cell x1, h.cell x2⟩
          have hxx : Ext wr wr.drew := Ext.drew (Ext.refl _)
          clear ho hx hwr gx tx hno hdl
          go_wp2
          go_region_held3 (fun w' => w'.cell? ⟨b, off + j * 3, none⟩ = some (.int .i64 x.i) ∧ w'.cell? ⟨b, off + j * 3 + 1, none⟩ = some (.int .i64 x.f) ∧ w'.cell? ⟨b, off + j * 3 + 2, none⟩ = some (.slice p1 n1 c1)) ((refine HS.out _ ?_; first | (with_reducible exact hxx))) ((go_at_call 15; refine (HC.out _ hxx).mono ?_; rintro e w3 ⟨⟨v, l', rfl, hv, hp⟩, hx3⟩; have HV := Lib.hid hv; have HPP := Lib.hid hp; clear hv hp; replace hxx := Ext.trans hxx hx3; clear hx3))
          go_wp2
          go_roundw
          case rel => exact ⟨j + 1, l', by go_num, by omega, HV.out, by
            have h := wrote_put HWR.out HXR.out HPP.out
            rw [List.take_add_one, GX.out]; exact h, Ext.trans HX.out hxx⟩
          case measure => simp [intOf]; omega
        · obtain rfl : j = n := by omega
          have hta : ws.take j = ws := List.take_of_length_le (by rw [← HNL.out]; omega)
          rw [hta] at HWR
          clear ho hx hwr hno hta
          have hlen' : ¬ (j : Int) < (no : Int) := by omega
          obtain ⟨t0, ht0⟩ : ∃ t0, N1 % (no + 1) = t0 := ⟨_, rfl⟩
          have ht0n : t0 ≤ no := by have := Nat.mod_lt N1 (show 0 < no + 1 by omega); omega
          have hmodI : (N1 : Int) % ((no : Int) + 1) = (t0 : Int) := by rw [← ht0]; exact (Int.natCast_emod N1 (no + 1)).symm
          have hmodT : Int.tmod (N1 : Int) ((no : Int) + 1) = (t0 : Int) := by
            rw [Int.tmod_eq_emod_of_nonneg (by omega)]; exact hmodI
          have hne0 : ¬ (no : Int) + 1 = 0 := by omega
          obtain ⟨t, htl, hsee⟩ := HWR.out.beg.1 t0
          have HSEE := Lib.hid hsee
          have HTL := Lib.hid htl
          clear ht0 hsee htl
          go_wp2_with fail
          refine (back_v _ l m _ F t0 wr HO.out HWR.out.all (HU.out.ext HX.out) HFL.out (by rw [← HNO.out]; exact ht0n) (by rw [← HNO.out]; omega)).mono ?_
          rintro e w4 ⟨⟨va, vr, rfl, ha, hr4⟩, hx4⟩
          rw [HSEE.out] at ha
          obtain ⟨pa, na, ca, rfl, hn9⟩ := sl_form ha
          have HA := Lib.hid ha
          have HX4 := Lib.hid (Ext.trans HX.out hx4)
          clear ha hr4 hx4 hn9
          go_wp2_with fail
          refine (rbytes_any F (seeL (ws.take t) m F) q pa nf cf na ca w4 (sl_row (HU.out.ext HX4.out)) (sl_row HA.out)).mono ?_
          rintro e w5 ⟨rfl, hx5⟩
          have HX5 := Lib.hid (Ext.trans HX4.out hx5)
          have HA5 := Lib.hid (HA.out.ext hx5)
          clear hx5
          by_cases h0 : F = seeL (ws.take t) m F
          · rw [decide_eq_true h0]
            clear h0
            go_wp2
            go_ret
            exact ⟨rfl, HX5.out⟩
          · have H0 := Lib.hid h0
            rw [decide_eq_false h0]
            clear h0
            go_wp2
            go_loopw [14, 15] (fun o i wr => RLook w5 ws F m j t o i wr) (fun o i _ => j - (intOf i).toNat)
            case atStart => exact ⟨0, rfl, by omega, by simpa [see_nil] using HU.out.ext HX5.out, fun s hs => (by obtain rfl : s = 0 := (by omega); simpa [see_nil] using H0.out), Ext.refl _⟩
            case round =>
              obtain ⟨k, rfl, hk, ho, hno, hx⟩ := hrel
              have HO2 := Lib.hid ho
              have HNE := Lib.hid hno
              have HXK := Lib.hid hx
              by_cases hlt : k < j
              · have hlt' : (k : Int) < (j : Int) := by omega
                have hlt0 : (0 : Int) ≤ (k : Int) := by omega
                obtain ⟨x, gx⟩ : ∃ x, ws[k]? = some x := ⟨_, List.getElem?_eq_getElem (by rw [← HNL.out]; exact hlt)⟩
                obtain ⟨b, off, p1, n1, c1, rfl, x0, x1, x2, tx⟩ := pc_at (sl_row HL.out) gx
                replace x0 := (Ext.trans HX5.out hx).cell x0
                replace x1 := (Ext.trans HX5.out hx).cell x1
                replace x2 := (Ext.trans HX5.out hx).cell x2
                have GX := Lib.hid gx
                have HT := Lib.hid tx
                have HXR := Lib.hid (HR.out x (List.mem_of_getElem? gx))
                obtain ⟨pv, nv, cv, rfl, hnv⟩ := sl_form ho
                clear ho hno hx gx tx hnv
                by_cases hi : x.i = m
                · have HI := Lib.hid hi
                  have hib : (x.i != m) = false := by simp [hi]
                  have hib2 : decide (x.i = m) = true := decide_eq_true hi
                  have hlen : (seeL (ws.take k) m F).length ≤ 10000 := by
                    have := see_len m F (ws.take k) (allR_take HR.out k)
                    have := HFL.out
                    omega
                  have HC : Hid (∀ W, Ext wr W → Calls Try.prog 11 #[.slice pv nv cv, .int .i64 x.f, .slice p1 n1 c1] W fun e w' => (∃ v, e = .returned (.tuple #[v, .int .i64 0]) ∧ (Lay.int .u8).Sl w' v (seeL (ws.take (k + 1)) m F)) ∧ Ext W w') := Lib.hid fun W hW =>
                    (lay_v _ (seeL (ws.take k) m F) x.d x.f p1 n1 c1 W (HO2.out.ext hW) (Lay.Sl.ext (Lay.Sl.mk HT.out.row HT.out.nc HT.out.cm HT.out.pl) (Ext.trans (Ext.trans HX5.out HXK.out) hW)) hlen HT.out.wb).mono fun e w' ⟨⟨v3, c3, e3, h1, h2, h3⟩, hx3⟩ => by
                      obtain ⟨rfl, ho3⟩ := h3 HXR.out.2.1 (fun _ => HXR.out.2.2.2)
                      refine ⟨⟨v3, e3, ?_⟩, hx3⟩
                      rw [see_succ GX.out, if_pos HI.out]
                      have e : layP (seeL (ws.take k) m F) x = rlaidL (seeL (ws.take k) m F) x.f.toNat x.d := (rlaid_ne _ _ HXR.out.2.2.1).symm
                      rw [e]; exact ho3.sl
                  have HS : Hid (∀ w', Ext wr w' → w'.cell? ⟨b, off + k * 3 + 1, none⟩ = some (.int .i64 x.f) ∧ w'.cell? ⟨b, off + k * 3 + 2, none⟩ = some (.slice p1 n1 c1)) := Lib.hid fun w' h => ⟨h.cell x1, h.cell x2⟩
                  have hxx : Ext wr wr.drew := Ext.drew (Ext.refl _)
                  clear hi hlen
                  go_wp2
                  go_region_held3 (fun w' => w'.cell? ⟨b, off + k * 3 + 1, none⟩ = some (.int .i64 x.f) ∧ w'.cell? ⟨b, off + k * 3 + 2, none⟩ = some (.slice p1 n1 c1)) ((refine HS.out _ ?_; first | (with_reducible exact hxx))) ((go_at_call 11; refine (HC.out _ hxx).mono ?_; rintro e w6 ⟨⟨v, rfl, hv⟩, hx6⟩; obtain ⟨p6, n6, c6, rfl, hn6⟩ := sl_form hv; have HV := Lib.hid hv; clear hv hn6; replace hxx := Ext.trans hxx hx6; clear hx6))
                  have HXX := Lib.hid hxx
                  have HA6 := Lib.hid (HA5.out.ext (Ext.trans HXK.out hxx))
                  clear hxx
                  go_wp2_with fail
                  refine (rbytes_any (seeL (ws.take (k + 1)) m F) (seeL (ws.take t) m F) p6 pa n6 c6 na ca _ (sl_row HV.out) (sl_row HA6.out)).mono ?_
                  rintro e w7 ⟨rfl, hx7⟩
                  have HX7 := Lib.hid (Ext.trans HXK.out (Ext.trans HXX.out hx7))
                  have HV7 := Lib.hid (HV.out.ext hx7)
                  clear hx7
                  by_cases h1 : seeL (ws.take (k + 1)) m F = seeL (ws.take t) m F
                  · rw [decide_eq_true h1]
                    clear h1
                    go_wp2
                    go_ret
                    exact ⟨rfl, Ext.trans HX5.out HX7.out⟩
                  · have H1 := Lib.hid h1
                    rw [decide_eq_false h1]
                    clear h1
                    go_wp2
                    go_roundw
                    case rel => exact ⟨k + 1, by go_num, by omega, HV7.out, fun s hs => by
                      by_cases he : s = k + 1
                      · subst he; exact H1.out
                      · exact HNE.out s (by omega), HX7.out⟩
                    case measure => simp [intOf]; omega
                · have HI := Lib.hid hi
                  have hib : (x.i != m) = true := by simp [hi]
                  have hib2 : decide (x.i = m) = false := decide_eq_false hi
                  have hsame : seeL (ws.take (k + 1)) m F = seeL (ws.take k) m F := by rw [see_succ GX.out, if_neg hi]
                  have HSAME := Lib.hid hsame
                  clear hi hsame
                  go_wp2
                  go_roundw
                  case rel => exact ⟨k + 1, by go_num, by omega, by rw [HSAME.out]; exact HO2.out, fun s hs => by
                    by_cases he : s = k + 1
                    · subst he; rw [HSAME.out]; exact HNE.out k (Nat.le_refl _)
                    · exact HNE.out s (by omega), HXK.out⟩
                  case measure => simp [intOf]; omega
              · obtain rfl : k = j := by omega
                exact absurd rfl (hno t (by have := HTL.out; have := HNL.out; omega))
end Go.Proofs.Ytcajmgdenhegjaa.Wr
