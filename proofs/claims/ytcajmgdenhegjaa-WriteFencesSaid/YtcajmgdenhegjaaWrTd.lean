/- Written bytes: the walk of WriteTakes. -/
import Derived.Test.YtcajmgdenhegjaaWrTc
import Derived.Test.YtcajmgdenhegjaaWrZ
import Derived.Deep.RegionHeld3
namespace Go.Proofs.Ytcajmgdenhegjaa.Wr
open Go.RowKit Go.Proofs.Ytcajmgdenhegjaa
set_option linter.unusedVariables false

def tkC (l : List Sf) (x : Pc) (ep : Int) : Int := if ep < (findS l x.i).e then 240 else 0
def tkL (l : List Sf) (x : Pc) (ep : Int) : List Sf := if ep < (findS l x.i).e then l else withS l ⟨x.i, ep, layP (findS l x.i).d x⟩
theorem ret_take {w0 w : World} {u : Value} {l : List Sf} {x : Pc} {ep : Int} {e : Ending} (h : RetTake w0 w u l x ep e) (hu : LSf.Sl w u l) : ∃ v, e = .returned (.tuple #[v, .int .i64 (tkC l x ep)]) ∧ LSf.Sl w v (tkL l x ep) := by
  unfold tkC tkL
  by_cases hlt : ep < (findS l x.i).e
  · rw [if_pos hlt, if_pos hlt]; exact ⟨u, h.1 hlt, hu⟩
  · rw [if_neg hlt, if_neg hlt]
    obtain ⟨v, h1, h2⟩ := h.2 hlt
    exact ⟨v, h1, h2.sl⟩
set_option maxRecDepth 100000 in
set_option maxHeartbeats 8000000 in
theorem wtakes_walk {v0 : Value} {l : List Sf} {cs : List Value} {x : Pc} {ep : Int} {w : World} (hl : LSf.Sl w v0 l) (hd : LPc.R w cs x) (he : (Lit.int .i64 ep).wf = true) : Calls Try.prog 4 #[v0, .agg cs.toArray, .int .i64 ep] w fun e w' => e = .returned (.bool true) ∧ Ext w w' := by
  obtain ⟨p, n, c, rfl, hn⟩ := sl_form hl
  obtain ⟨pd, nd, cd, ht⟩ := tri_cells (show LTri.R w cs (x.i, x.f, x.d) from hd)
  obtain rfl := ht.eq
  have HL := Lib.hid hl
  have HT := Lib.hid ht
  have HE := Lib.hid he
  have HNL := Lib.hid hn
  have hxA : Ext w (w.alloc (.cells #[.int .i64 x.i, .int .i64 x.f, .slice pd nd cd] 30)) := Ext.alloc _ _
  clear hl hn hd ht he
  go_enter Try.func4, Try.ntmps4
  go_wp2_with fail
  refine (head_v _).mono ?_
  rintro e w1 ⟨rfl, hx1⟩
  have HX1 := Lib.hid (Ext.trans hxA hx1)
  have HX1b := Lib.hid hx1
  clear hx1 hxA
  go_wp2_with fail
  refine (stor_any p n c l w1 (sl_row (HL.out.ext HX1.out))).mono ?_
  rintro e w2 ⟨⟨b, rfl, hb⟩, hx2⟩
  have HX2 := Lib.hid (Ext.trans HX1.out hx2)
  have HX2b := Lib.hid (Ext.trans HX1b.out hx2)
  cases b with
  | false =>
    clear hx2 hb
    go_wp2
    go_ret
    exact ⟨rfl, HX2.out⟩
  | true =>
    obtain ⟨h30, hall⟩ := hb.1 rfl
    have HSR := Lib.hid hall
    have HN30 : Hid (n ≤ 30) := Lib.hid (by rw [HNL.out]; exact h30)
    obtain ⟨f0, f1, f2⟩ := box3 HX2b.out
    clear hx2 hb h30 hall
    have hxl : Ext w2 (w2.alloc (.cells #[.int .i64 x.i, .int .i64 x.f, .slice pd nd cd] 30)) := Ext.alloc _ _
    have HXL := Lib.hid hxl
    have hrow1 := pcs_one 30 (TriC.ext HT.out (Ext.trans HX2.out hxl)) (Ext.refl (w2.alloc (.cells #[.int .i64 x.i, .int .i64 x.f, .slice pd nd cd] 30)))
    have HROW1 := Lib.hid hrow1
    clear hxl hrow1
    go_wp2_with fail
    refine (fits_any _ 1 1 [⟨x.i, x.f, x.d⟩] _ HROW1.out).mono ?_
    rintro e w3 ⟨⟨b3, rfl, hb3⟩, hx3⟩
    have HX3 := Lib.hid (Ext.trans HX2.out (Ext.trans HXL.out hx3))
    have HX3b := Lib.hid (Ext.trans HX2b.out (Ext.trans HXL.out hx3))
    clear f0 f1 f2
    cases b3 with
    | false =>
      clear hx3 hb3
      go_wp2
      go_ret
      exact ⟨rfl, HX3.out⟩
    | true =>
      obtain ⟨_, hall3, h300⟩ := hb3.1 rfl
      have HXR : Hid x.Right := Lib.hid (hall3 x (by simp))
      have HDL : Hid (∀ y ∈ l, y.d.length ≤ 10000) := Lib.hid fun y hy => by have := (HSR.out.1 y hy).2.2; omega
      have HLL : Hid (l.length ≤ 1000) := Lib.hid (by rw [← HNL.out]; have := HN30.out; omega)
      clear hx3 hb3 hall3 h300
      by_cases hf : ep < 0
      · go_wp2
        go_ret
        exact ⟨rfl, HX3.out⟩
      · have hf' : decide (ep < 0) = false := decide_eq_false hf
        clear hf
        obtain ⟨f0, f1, f2⟩ := box3 HX3b.out
        go_wp2_with fail
        refine (take_v _ l x pd nd cd ep w3 (HL.out.ext HX3.out) HSR.out.2 HLL.out HDL.out (TriC.ext HT.out HX3.out) HXR.out.ok HE.out).mono ?_
        rintro e w4 ⟨hr, hx4⟩
        obtain ⟨va, rfl, ha⟩ := ret_take hr (HL.out.ext (Ext.trans HX3.out hx4))
        obtain ⟨pa, na, ca, rfl, hna⟩ := sl_form ha
        have HA := Lib.hid ha
        have HX4 := Lib.hid (Ext.trans HX3.out hx4)
        have HX4b := Lib.hid (Ext.trans HX3b.out hx4)
        clear hr ha hna hx4 f0 f1 f2
        obtain ⟨f0, f1, f2⟩ := box3 HX4b.out
        go_wp2_with fail
        refine (rtake_v p n c l x pd nd cd ep w4 (sl_row (HL.out.ext HX4.out)) HSR.out.2 (by have := HN30.out; omega) HDL.out (TriC.ext HT.out HX4.out) HXR.out.ok HE.out).mono ?_
        rintro e w5 ⟨hr, hx5⟩
        obtain ⟨vb, rfl, hb5⟩ := ret_take hr (HL.out.ext (Ext.trans HX4.out hx5))
        obtain ⟨pb, nb, cb, rfl, hnb⟩ := sl_form hb5
        have HB5 := Lib.hid hb5
        have HA5 := Lib.hid (HA.out.ext hx5)
        have HX5 := Lib.hid (Ext.trans HX4.out hx5)
        have HX5b := Lib.hid (Ext.trans HX4b.out hx5)
        clear hr hb5 hnb hx5 f0 f1 f2
        generalize tkC l x ep = C
        have HSM : Hid (∀ W, Ext w5 W → Calls Try.prog 23 #[.slice pa na ca, .slice pb nb cb] W fun e w' => e = .returned (.bool true) ∧ Ext W w') := Lib.hid fun W hW => rsames_t (sl_row (HA5.out.ext hW)) (sl_row (HB5.out.ext hW)) rfl
        obtain ⟨R, hR⟩ : ∃ R, withS l ⟨x.i, max (findS l x.i).e ep, (findS l x.i).d⟩ = R := ⟨_, rfl⟩
        have HRR := Lib.hid hR
        have HR1 : Hid (∀ W, Ext w5 W → Calls Try.prog 24 #[.slice p n c, .int .i64 x.i, .int .i64 ep] W fun e w' => (∃ v, e = .returned v ∧ LSf.Own w' W.heap.size 51 v R) ∧ Ext W w') := Lib.hid fun W hW => by
          have h := raise_v (.slice p n c) l x.i ep W (HL.out.ext (Ext.trans HX5.out hW)) HSR.out.2 HLL.out HT.out.wa HE.out
          rwa [HRR.out] at h
        have HR2 : Hid (∀ W, Ext w5 W → Calls Try.prog 25 #[.slice p n c, .int .i64 x.i, .int .i64 ep] W fun e w' => (∃ v, e = .returned v ∧ LSf.Own w' W.heap.size 51 v R) ∧ Ext W w') := Lib.hid fun W hW => by
          have h := rraise_v p n c l x.i ep W (sl_row (HL.out.ext (Ext.trans HX5.out hW))) HSR.out.2 (by have := HN30.out; omega) HT.out.wa HE.out
          rwa [HRR.out] at h
        have HS : Hid (∀ w', Ext w5 w' → w'.cell? ⟨w.heap.size, 0, none⟩ = some (.int .i64 x.i)) := Lib.hid fun w' h => h.cell (box3 HX5b.out).1
        have hxx : Ext w5 w5.drew := Ext.drew (Ext.refl _)
        clear hR
        go_wp2
        go_region_held3 (fun w' => w'.cell? ⟨w.heap.size, 0, none⟩ = some (.int .i64 x.i)) ((refine HS.out _ ?_; first | (with_reducible exact hxx))) (first | (go_at_call 24; refine (HR1.out _ hxx).mono ?_; rintro e wA ⟨⟨v, rfl, hv⟩, hxA⟩; obtain ⟨qa, ma, da, rfl⟩ := own_form hv; have HVA := Lib.hid hv.sl; have hya := Ext.refl wA; (try replace hyb := Ext.trans hyb hxA); replace hxx := Ext.trans hxx hxA; clear hv hxA) | (go_at_call 25; refine (HR2.out _ hxx).mono ?_; rintro e wB ⟨⟨v, rfl, hv⟩, hxB⟩; obtain ⟨qb, mb, db, rfl⟩ := own_form hv; have HVB := Lib.hid hv.sl; have hyb := Ext.refl wB; (try replace hya := Ext.trans hya hxB); replace hxx := Ext.trans hxx hxB; clear hv hxB) | (go_at_call 23; with_reducible refine (HSM.out _ hxx).mono ?_; rintro e wC ⟨rfl, hxC⟩; replace hxx := Ext.trans hxx hxC; clear hxC) | (go_at_call 23; refine (rsames_t (sl_row (HVA.out.ext hya)) (sl_row (HVB.out.ext hyb)) rfl).mono ?_; rintro e wD ⟨rfl, hxD⟩; replace hxx := Ext.trans hxx hxD; clear hxD))
        all_goals
          go_wp2
          go_ret
          exact ⟨rfl, Ext.trans HX5.out hxx⟩
end Go.Proofs.Ytcajmgdenhegjaa.Wr
