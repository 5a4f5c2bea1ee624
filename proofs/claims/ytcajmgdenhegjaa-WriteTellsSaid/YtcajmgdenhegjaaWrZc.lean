/- Written bytes: the walk of WriteSees. -/
import Derived.Test.YtcajmgdenhegjaaWrZ
import Derived.Test.YtcajmgdenhegjaaGrow
namespace Go.Proofs.Ytcajmgdenhegjaa.Wr
open Go.RowKit Go.Proofs.Ytcajmgdenhegjaa
set_option linter.unusedVariables false

theorem lay_mid (F : List Int) (k : Nat) (d : List Int) : ((layL F k d).drop k).take d.length = d := by
  unfold layL
  have hp := padL_length F (k + d.length)
  have h1 : (List.take k (padL F (k + d.length))).length = k := by rw [List.length_take]; omega
  rw [List.append_assoc, List.drop_left' h1, List.take_left' rfl]
set_option maxRecDepth 100000 in
set_option maxHeartbeats 8000000 in
theorem wsees_walk {v0 u : Value} {l : List Pc} {cs : List Value} {x : Pc} {oth : Int} {F : List Int} {w : World} (hl : LPc.Sl w v0 l) (hd : LPc.R w cs x) (hu : (Lay.int .u8).Sl w u F) : Calls Try.prog 5 #[v0, .agg cs.toArray, u, .int .i64 oth] w fun e w' => e = .returned (.bool true) ∧ Ext w w' := by
  obtain ⟨p, n, c, rfl, hn⟩ := sl_form hl
  obtain ⟨q, nf, cf, rfl, hnf⟩ := sl_form hu
  obtain ⟨pd, nd, cd, ht⟩ := tri_cells (show LTri.R w cs (x.i, x.f, x.d) from hd)
  obtain rfl := ht.eq
  have HL := Lib.hid hl
  have HU := Lib.hid hu
  have HT := Lib.hid ht
  have HNL := Lib.hid hn
  have HNF := Lib.hid hnf
  have hxA : Ext w (w.alloc (.cells #[.int .i64 x.i, .int .i64 x.f, .slice pd nd cd] 30)) := Ext.alloc _ _
  have HXA := Lib.hid hxA
  clear hl hu hn hnf hd ht
  go_enter Try.func5, Try.ntmps5
  go_wp2_with fail
  refine (head_v _).mono ?_
  rintro e w1 ⟨rfl, hx1⟩
  have HB1 := Lib.hid (pc_box hx1)
  have HX1 := Lib.hid (Ext.trans hxA hx1)
  have HX1b := Lib.hid hx1
  clear hx1 hxA
  go_wp2_with fail
  refine (fits_any p n c l w1 (sl_row (HL.out.ext HX1.out))).mono ?_
  rintro e w2 ⟨⟨b, rfl, hb⟩, hx2⟩
  have HX2 := Lib.hid (Ext.trans HX1.out hx2)
  have HX2b := Lib.hid (Ext.trans HX1b.out hx2)
  cases b with
  | false =>
    clear hx2 hb
    go_wp2
    go_ret
    exact ⟨rfl, HX2.out⟩
  | true =>
    obtain ⟨h30, hall, _⟩ := hb.1 rfl
    have HR := Lib.hid hall
    have hn30 : n ≤ 30 := by rw [HNL.out]; exact h30
    obtain ⟨f0, f1, f2⟩ := pc_box HX2b.out
    clear hx2 hb h30 hall
    have hxl : Ext w2 (w2.alloc (.cells #[.int .i64 x.i, .int .i64 x.f, .slice pd nd cd] 30)) := Ext.alloc _ _
    have HXL := Lib.hid hxl
    have hrow1 := pcs_one 30 (TriC.ext HT.out (Ext.trans HX2.out hxl)) (Ext.refl (w2.alloc (.cells #[.int .i64 x.i, .int .i64 x.f, .slice pd nd cd] 30)))
    have HROW1 := Lib.hid hrow1
    clear hxl hrow1
    go_wp2_with fail
    refine (fits_any _ 1 1 [⟨x.i, x.f, x.d⟩] _ HROW1.out).mono ?_
    rintro e w3 ⟨⟨b3, rfl, hb3⟩, hx3⟩
    have HX3 := Lib.hid (Ext.trans HX2.out (Ext.trans HXL.out hx3))
    have HX3b := Lib.hid (Ext.trans HX2b.out (Ext.trans HXL.out hx3))
    clear f0 f1 f2
    cases b3 with
    | false =>
      clear hx3 hb3
      go_wp2
      go_ret
      exact ⟨rfl, HX3.out⟩
    | true =>
      obtain ⟨_, hall3, h300⟩ := hb3.1 rfl
      have HXR : Hid x.Right := Lib.hid (hall3 x (by simp))
      have hnd3 : nd ≤ 300 := by have := h300 x (by simp); have := HT.out.row.1; omega
      clear hx3 hb3 hall3 h300
      by_cases hf : 4096 < nf
      · have hf' : (4096 : Int) < (nf : Int) := by omega
        go_wp2
        go_ret
        exact ⟨rfl, HX3.out⟩
      · have hf' : ¬ (4096 : Int) < (nf : Int) := by omega
        have HFL : Hid (F.length ≤ 4096) := Lib.hid (by rw [← HNF.out]; omega)
        obtain ⟨f0, f1, f2⟩ := pc_box HX3b.out
        -- was
        go_wp2_with fail
        refine (csee_v _ F p n c l x.i w3 (HU.out.ext HX3.out) (sl_row (HL.out.ext HX3.out)) HR.out (by omega) (by have := HFL.out; omega)).mono ?_
        rintro e w4 ⟨⟨v, rfl, hs⟩, hx4⟩
        obtain ⟨pw, nw, cw, rfl⟩ := own_form hs
        have HW := Lib.hid hs.sl
        have HX4 := Lib.hid (Ext.trans HX3.out hx4)
        have HX4b := Lib.hid (Ext.trans HX3b.out hx4)
        clear hs hx4 f0 f1 f2
        obtain ⟨f0, f1, f2⟩ := pc_box HX4b.out
        -- now
        go_wp2_with fail
        have hdl : x.d.length ≤ 100000 := by have := HT.out.row.1; omega
        refine (put_v p n c l x.i x.f _ x.d w4 (HL.out.ext HX4.out) HR.out (by omega) (Lay.Sl.ext (Lay.Sl.mk HT.out.row HT.out.nc HT.out.cm HT.out.pl) HX4.out) hdl HT.out.wa HT.out.wb).mono ?_
        rintro e w5 ⟨⟨v, l', rfl, hs, hp⟩, hx5⟩
        obtain ⟨pn, nn, cn, rfl, hnn⟩ := sl_form hs
        have HNW := Lib.hid hs
        have HP : Hid (PutS l x l') := Lib.hid hp
        have hlen := hp.len
        have hnn1 : n ≤ nn ∧ nn ≤ n + 1 := by rw [hnn, HNL.out]; exact hlen
        have HR' := Lib.hid (HP.out.right HR.out)
        have HX5 := Lib.hid (Ext.trans HX4.out hx5)
        have HX5b := Lib.hid (Ext.trans HX4b.out hx5)
        have HW5 := Lib.hid (HW.out.ext hx5)
        clear hs hp hx5 f0 f1 f2 hnn hlen hdl
        obtain ⟨f0, f1, f2⟩ := pc_box HX5b.out
        -- is
        go_wp2_with fail
        refine (csee_v _ F pn nn cn l' x.i w5 (HU.out.ext HX5.out) (sl_row HNW.out) HR'.out (by omega) (by have := HFL.out; omega)).mono ?_
        rintro e w6 ⟨⟨v, rfl, hs⟩, hx6⟩
        rw [HP.out.see HR.out HXR.out x.i F, if_pos rfl] at hs
        obtain ⟨A, hA⟩ : ∃ A, seeL l x.i F = A := ⟨_, rfl⟩
        have HAA := Lib.hid hA
        rw [hA] at hs HW5
        obtain ⟨pi, ni, ci, rfl, hni⟩ := sl_form hs.sl
        have HI := Lib.hid hs.sl
        have HX6 := Lib.hid (Ext.trans HX5.out hx6)
        have HX6b := Lib.hid (Ext.trans HX5b.out hx6)
        have HW6 := Lib.hid (HW5.out.ext hx6)
        have HNW6 := Lib.hid (HNW.out.ext hx6)
        have hlenA : A.length ≤ 10000 := by rw [← hA]; have := see_len x.i F l HR.out; have := HFL.out; omega
        have HLA := Lib.hid hlenA
        obtain ⟨kf, hkf⟩ : ∃ k : Nat, x.f = (k : Int) := ⟨x.f.toNat, by have := HXR.out.2.1; omega⟩
        have hlp : (layP A x).length = max A.length (kf + x.d.length) := by
          have := layL_length A x.f.toNat x.d
          unfold layP
          rw [this, hkf]; simp
        have hnd : x.d.length = nd := HT.out.row.1
        have hni2 : kf + nd ≤ ni := by rw [hni, hlp, hnd]; omega
        have hkb : kf + nd ≤ 4096 := by have h7 := HXR.out.2.2.2; unfold Pc.e at h7; omega
        have hmid : ((layP A x).drop kf).take nd = x.d := by
          have h7 := lay_mid A x.f.toNat x.d
          rw [hkf, hnd] at h7
          unfold layP
          rw [hkf]; simpa using h7
        have HMID := Lib.hid hmid
        have HKF := Lib.hid hkf
        clear hs hx6 f0 f1 f2 hA hni hlenA hlp hnd hmid hkf
        obtain ⟨f0, f1, f2⟩ := pc_box HX6b.out
        -- want
        go_wp2_with fail
        refine (lay_v _ A x.d x.f pd nd cd w6 HW6.out (Lay.Sl.ext (Lay.Sl.mk HT.out.row HT.out.nc HT.out.cm HT.out.pl) HX6.out) HLA.out HT.out.wb).mono ?_
        rintro e w7 ⟨⟨v3, c3, rfl, h1, h2, h3⟩, hx7⟩
        obtain ⟨rfl, ho3⟩ := h3 HXR.out.2.1 (fun _ => HXR.out.2.2.2)
        rw [rlaid_ne _ _ HXR.out.2.2.1] at ho3
        obtain ⟨pz, nz, cz, rfl⟩ := own_form ho3
        have HZ : Hid ((Lay.int .u8).Sl w7 (.slice pz nz cz) (layP A x)) := Lib.hid ho3.sl
        have HX7 := Lib.hid (Ext.trans HX6.out hx7)
        have HX7b := Lib.hid (Ext.trans HX6b.out hx7)
        have HI7 := Lib.hid (HI.out.ext hx7)
        have HNW7 := Lib.hid (HNW6.out.ext hx7)
        clear h1 h2 h3 ho3 hx7 f0 f1 f2
        obtain ⟨i1, i2, i3, i4⟩ := sl_parts HI7.out
        have k0 : ∀ g : Gr w7, g.w.cell? ⟨w.heap.size, 0, none⟩ = some (.int .i64 x.i) := fun g => g.cell (pc_box HX7b.out).1
        have k1 : ∀ g : Gr w7, g.w.cell? ⟨w.heap.size, 1, none⟩ = some (.int .i64 (kf : Int)) := fun g => by rw [← HKF.out]; exact g.cell (pc_box HX7b.out).2.1
        have k2 : ∀ g : Gr w7, g.w.cell? ⟨w.heap.size, 2, none⟩ = some (.slice pd nd cd) := fun g => g.cell (pc_box HX7b.out).2.2
        have hcp : (if ci = kf then pi else Option.map (fun x => x.add kf) pi) = cutP pi ci kf 1 := by unfold cutP; simp
        have hc0 : (0 : Int) ≤ (kf : Int) + (nd : Int) := by omega
        have hc1 : (kf : Int) + (nd : Int) ≤ (ci : Int) := by omega
        have hc2 : kf ≤ kf + nd := by omega
        have hc3 : kf ≤ ci := by omega
        have hwr : IntKind.i64.wrap ((kf : Int) + (nd : Int)) = (kf : Int) + (nd : Int) := by rw [IntKind.wrap_i64]; omega
        have hlt1 : ¬ (ni : Int) < (kf : Int) + (nd : Int) := by omega
        have hlt2 : decide ((ni : Int) < (kf : Int) + (nd : Int)) = false := decide_eq_false hlt1
        have HB2 : Hid (∀ g : Gr w7, Calls Try.prog 17 #[.slice pi ni ci, .slice pz nz cz] g.w fun e w' => e = .returned (.bool true) ∧ Ext g.w w') := Lib.hid fun g => rbytes_t (sl_row (HI7.out.ext g.h)) (sl_row (HZ.out.ext g.h)) rfl
        have HB3 : Hid (∀ g : Gr w7, Calls Try.prog 17 #[.slice (cutP pi ci kf 1) nd (ci - kf), .slice pd nd cd] g.w fun e w' => e = .returned (.bool true) ∧ Ext g.w w') := Lib.hid fun g => by
          have hr := (i1.ext g.h).cut i2 i4 kf (kf + nd) (by omega) (by omega)
          rw [show kf + nd - kf = nd by omega, HMID.out] at hr
          exact rbytes_t hr (HT.out.row.ext (Ext.trans HX7.out g.h)) rfl
        clear i1 i2 i3 i4
        go_wp2
        refine wp_region_grown (Ext.refl w7) (by kernel_rfl) (by kernel_rfl) ?_
        repeat (go_big_quiet_step (first | (go_at_call 17; with_reducible exact Gr.of (HB2.out _)) | (go_at_call 17; with_reducible exact Gr.of (HB3.out _))))
        refine wpQuiet_nil ?_
        intro gw
        have HG := Lib.hid gw.h
        have HX8 := Lib.hid (Ext.trans HX7.out gw.h)
        have b0 : gw.w.cell? ⟨w.heap.size, 0, none⟩ = some (.int .i64 x.i) := k0 gw
        have hge : (n : Int) ≤ (nn : Int) := by omega
        have hle : (nn : Int) ≤ (n : Int) + 1 := by omega
        have HAB : Hid (allB l' = true) := Lib.hid ((allB_iff l').2 HR'.out)
        clear k0 k1 k2 hcp hc0 hc1 hc2 hc3 hwr hlt1 hlt2
        go_wp2_with fail
        have hall := rall_any pn nn cn l' gw.w (sl_row (HNW7.out.ext HG.out))
        rw [HAB.out] at hall
        refine hall.mono ?_
        rintro e w8 ⟨rfl, hx8⟩
        have HX9 := Lib.hid (Ext.trans HX8.out hx8)
        have HN9 := Lib.hid (HNW7.out.ext (Ext.trans HG.out hx8))
        have b8 := hx8.cell b0
        clear hall hx8 b0
        by_cases ho : oth = x.i
        · have hob : (oth == x.i) = true := by simp [ho]
          have hob2 : decide (oth = x.i) = true := decide_eq_true ho
          clear ho
          go_wp2
          go_ret
          exact ⟨rfl, HX9.out⟩
        · have HOTH := Lib.hid ho
          have hob : (oth == x.i) = false := by simp [ho]
          have hob2 : decide (oth = x.i) = false := decide_eq_false ho
          clear ho
          go_wp2_with fail
          refine (csee_v _ F pn nn cn l' oth w8 (HU.out.ext HX9.out) (sl_row HN9.out) HR'.out (by omega) (by have := HFL.out; omega)).mono ?_
          rintro e w10 ⟨⟨v, rfl, hs⟩, hx10⟩
          rw [HP.out.see HR.out HXR.out oth F, if_neg (fun e => HOTH.out e.symm)] at hs
          obtain ⟨pa, na, ca, rfl⟩ := own_form hs
          have HA1 := Lib.hid hs.sl
          have HX10 := Lib.hid (Ext.trans HX9.out hx10)
          clear hs hx10 b8
          go_wp2_with fail
          refine (csee_v _ F p n c l oth w10 (HU.out.ext HX10.out) (sl_row (HL.out.ext HX10.out)) HR.out (by omega) (by have := HFL.out; omega)).mono ?_
          rintro e w11 ⟨⟨v, rfl, hs⟩, hx11⟩
          obtain ⟨pb, nb, cb, rfl⟩ := own_form hs
          have HA2 := Lib.hid hs.sl
          have HA1b := Lib.hid (HA1.out.ext hx11)
          have HX11 := Lib.hid (Ext.trans HX10.out hx11)
          clear hs hx11
          go_wp2_with fail
          refine (rbytes_t (sl_row HA1b.out) (sl_row HA2.out) rfl).mono ?_
          rintro e w12 ⟨rfl, hx12⟩
          go_wp2
          go_ret
          exact ⟨rfl, Ext.trans HX11.out hx12⟩
end Go.Proofs.Ytcajmgdenhegjaa.Wr
