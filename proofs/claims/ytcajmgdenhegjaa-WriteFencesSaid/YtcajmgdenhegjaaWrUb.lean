/- Written bytes: the walk of WriteFences. -/
import Derived.Test.YtcajmgdenhegjaaWrUa
namespace Go.Proofs.Ytcajmgdenhegjaa.Wr
open Go.RowKit Go.Proofs.Ytcajmgdenhegjaa
set_option linter.unusedVariables false

theorem wf_byte {a : Int} (h : 0 ≤ a ∧ a ≤ 255) : (Lit.int .i64 a).wf = true := by
  simp [Lit.wf, IntKind.min, IntKind.max, IntKind.signed, IntKind.bits]
  omega
def RFence (w0 : World) (l0 : List Sf) (x : Pc) (ra oth : Int) (n : Nat) (o i : Value) (wr : World) : Prop :=
  ∃ (j : Nat) (L : List Sf), i = .int .i64 j ∧ j ≤ n ∧ LSf.Sl wr o L ∧ Fenced l0 x ra oth j L ∧ Ext w0 wr
set_option maxRecDepth 100000 in
set_option maxHeartbeats 8000000 in
theorem wfences_walk {v0 u : Value} {l : List Sf} {cs : List Value} {x : Pc} {E : List Int} {ra oth : Int} {w : World} (hl : LSf.Sl w v0 l) (hd : LPc.R w cs x) (hu : (Lay.int .u8).Sl w u E) (hra : (Lit.int .u8 ra).wf = true) (hoth : (Lit.int .i64 oth).wf = true) : Calls Try.prog 8 #[v0, .agg cs.toArray, u, .int .u8 ra, .int .i64 oth] w fun e w' => e = .returned (.bool true) ∧ Ext w w' := by
  obtain ⟨p, n, c, rfl, hn⟩ := sl_form hl
  obtain ⟨q, ne, ce, rfl, hne⟩ := sl_form hu
  obtain ⟨pd, nd, cd, ht⟩ := tri_cells (show LTri.R w cs (x.i, x.f, x.d) from hd)
  obtain rfl := ht.eq
  have hra2 : 0 ≤ ra ∧ ra ≤ 255 := by
    simp [Lit.wf, IntKind.min, IntKind.max, IntKind.signed, IntKind.bits] at hra
    exact hra
  have HRA := Lib.hid hra2
  have hwra : IntKind.i64.wrap ra = ra := by rw [IntKind.wrap_i64]; omega
  have HL := Lib.hid hl
  have HT := Lib.hid ht
  have HU := Lib.hid hu
  have HOT := Lib.hid hoth
  have HNL := Lib.hid hn
  have HNE := Lib.hid hne
  have hxA : Ext w (w.alloc (.cells #[.int .i64 x.i, .int .i64 x.f, .slice pd nd cd] 30)) := Ext.alloc _ _
  clear hl hn hd ht hu hne hoth hra hra2
  go_enter Try.func8, Try.ntmps8
  go_wp2_with fail
  refine (head_v _).mono ?_
  rintro e w1 ⟨rfl, hx1⟩
  have HX1 := Lib.hid (Ext.trans hxA hx1)
  have HX1b := Lib.hid hx1
  clear hx1 hxA
  go_wp2_with fail
  refine (stor_any p n c l w1 (sl_row (HL.out.ext HX1.out))).mono ?_
  rintro e w2 ⟨⟨b, rfl, hb⟩, hx2⟩
  have HX2 := Lib.hid (Ext.trans HX1.out hx2)
  have HX2b := Lib.hid (Ext.trans HX1b.out hx2)
  cases b with
  | false =>
    clear hx2 hb
    go_wp2
    go_ret
    exact ⟨rfl, HX2.out⟩
  | true =>
    obtain ⟨h30, hall⟩ := hb.1 rfl
    have HSR := Lib.hid hall
    have HN30 : Hid (n ≤ 30) := Lib.hid (by rw [HNL.out]; exact h30)
    have HLL : Hid (l.length ≤ 30) := Lib.hid h30
    obtain ⟨f0, f1, f2⟩ := box3 HX2b.out
    clear hx2 hb h30 hall
    have hxl : Ext w2 (w2.alloc (.cells #[.int .i64 x.i, .int .i64 x.f, .slice pd nd cd] 30)) := Ext.alloc _ _
    have HXL := Lib.hid hxl
    have hrow1 := pcs_one 30 (TriC.ext HT.out (Ext.trans HX2.out hxl)) (Ext.refl (w2.alloc (.cells #[.int .i64 x.i, .int .i64 x.f, .slice pd nd cd] 30)))
    have HROW1 := Lib.hid hrow1
    clear hxl hrow1
    go_wp2_with fail
    refine (fits_any _ 1 1 [⟨x.i, x.f, x.d⟩] _ HROW1.out).mono ?_
    rintro e w3 ⟨⟨b3, rfl, hb3⟩, hx3⟩
    have HX3 := Lib.hid (Ext.trans HX2.out (Ext.trans HXL.out hx3))
    have HX3b := Lib.hid (Ext.trans HX2b.out (Ext.trans HXL.out hx3))
    clear f0 f1 f2
    cases b3 with
    | false =>
      clear hx3 hb3
      go_wp2
      go_ret
      exact ⟨rfl, HX3.out⟩
    | true =>
      obtain ⟨_, hall3, h300⟩ := hb3.1 rfl
      have HXR : Hid x.Right := Lib.hid (hall3 x (by simp))
      clear hx3 hb3 hall3 h300
      by_cases hf : 30 < ne
      · have hf' : (30 : Int) < (ne : Int) := by omega
        go_wp2
        go_ret
        exact ⟨rfl, HX3.out⟩
      · have hf' : ¬ (30 : Int) < (ne : Int) := by omega
        have HNE30 : Hid (ne ≤ 30) := Lib.hid (by omega)
        obtain ⟨f0, f1, f2⟩ := box3 HX3b.out
        go_wp2_with fail
        refine (raise_v _ l x.i ra w3 (HL.out.ext HX3.out) HSR.out.2 (by have := HLL.out; omega) HT.out.wa (wf_byte HRA.out)).mono ?_
        rintro e w4 ⟨⟨v, rfl, ho⟩, hx4⟩
        have HO4 := Lib.hid ho.sl
        have HX4 := Lib.hid (Ext.trans HX3.out hx4)
        have HX4b := Lib.hid (Ext.trans HX3b.out hx4)
        clear ho hx4 f0 f1 f2 hf hf'
        go_wp2
        go_loopw [12, 13] (fun o i wr => RFence w4 l x ra oth ne o i wr) (fun _ i _ => ne - (intOf i).toNat)
        case atStart => exact ⟨0, _, rfl, by omega, HO4.out, fenced_raise HSR.out HXR.out HRA.out.1, Ext.refl _⟩
        case round =>
          obtain ⟨j, L, rfl, hj, ho, hfe, hx⟩ := hrel
          have HX := Lib.hid hx
          have HXW := Lib.hid (Ext.trans HX4.out hx)
          have HXB := Lib.hid (Ext.trans HX4b.out hx)
          have HFE := Lib.hid hfe
          have HO := Lib.hid ho
          have HLEN : Hid (L.length ≤ 100) := Lib.hid (by have := hfe.len; have := HLL.out; have := HNE30.out; omega)
          obtain ⟨po, no, co, rfl, hno⟩ := sl_form ho
          have HNO := Lib.hid hno
          clear ho hfe hx hno
          by_cases hlt : j < ne
          · have hlt' : (j : Int) < (ne : Int) := by omega
            have hlt0 : (0 : Int) ≤ (j : Int) := by omega
            obtain ⟨b0, b1, b2⟩ := box3 HXB.out
            go_wp2_with fail
            refine (rfind_v po no co L x.i wr (sl_row HO.out) HT.out.wa).mono ?_
            rintro e w5 ⟨⟨v, rfl, q5, k5, d5, rfl, t5⟩, hx5⟩
            obtain ⟨y, hy⟩ : ∃ y, E[j]? = some y := ⟨_, List.getElem?_eq_getElem (by rw [← HNE.out]; exact hlt)⟩
            obtain ⟨be, offe, y2, cse, rfl, hy2, ⟨rfl, hwe⟩, hce⟩ := (sl_row HU.out).get (j := j) hlt
            obtain rfl : y = y2 := by simpa [hy] using hy2
            have hc0 : w.cell? ⟨be, offe + j, none⟩ = some (.int .u8 y) := by have := hce 0 _ rfl; simpa [Lay.int] using this
            have hyb : 0 ≤ y ∧ y ≤ 255 := by
              simp [Lit.wf, IntKind.min, IntKind.max, IntKind.signed, IntKind.bits] at hwe
              exact hwe
            have HYB := Lib.hid hyb
            have hwy : IntKind.i64.wrap y = y := by rw [IntKind.wrap_i64]; omega
            have hFi : (findS L x.i).i = x.i := find_is L x.i
            obtain ⟨hq1, hq2⟩ := find_ok HFE.out.ok x.i
            obtain ⟨F, hF⟩ : ∃ F, findS L x.i = F := ⟨_, rfl⟩
            have hFd := hF
            rw [hF] at t5 hFi hq1 hq2 ⊢
            obtain ⟨fi, fe, fd⟩ := F
            simp only at t5 hFi hq1 hq2 ⊢
            subst hFi
            have HF := Lib.hid hFd
            have HT5 := Lib.hid t5
            have HX5 := Lib.hid hx5
            have HC0 := Lib.hid hc0
            have hxB : Ext wr (w5.alloc (.cells #[.int .i64 x.i, .int .i64 fe, .slice q5 k5 d5] 51)) := Ext.trans hx5 (Ext.alloc _ _)
            have HXB5 := Lib.hid hxB
            have HXW5 := Lib.hid (Ext.trans HXW.out hxB)
            have HXB6 := Lib.hid (Ext.trans HXB.out hxB)
            have HBX := Lib.hid (Ext.refl (w5.alloc (.cells #[.int .i64 x.i, .int .i64 fe, .slice q5 k5 d5] 51)))
            clear hy hy2 hwe hce hc0 hyb hFd t5 hx5 hxB b0 b1 b2 hq1 hq2
            by_cases hfen : y < fe
            · have HTK : Hid (∀ W, Ext wr W → Calls Try.prog 21 #[.slice po no co, .agg #[.int .i64 x.i, .int .i64 x.f, .slice pd nd cd], .int .i64 y] W fun e w' => e = .returned (.tuple #[.slice po no co, .int .i64 240]) ∧ Ext W w') := Lib.hid fun W hW =>
                (take_v (.slice po no co) L x pd nd cd y W (HO.out.ext hW) HFE.out.ok.2 (by have := HLEN.out; omega) (fun z hz => by have := (HFE.out.ok.1 z hz).2.2; omega) (TriC.ext HT.out (Ext.trans HXW.out hW)) HXR.out.ok (wf_byte HYB.out)).mono fun e w' ⟨h1, h2⟩ => ⟨h1.1 (by rw [HF.out]; exact hfen), h2⟩
              have k0 : ∀ g : Gr (w5.alloc (.cells #[.int .i64 x.i, .int .i64 fe, .slice q5 k5 d5] 51)), g.w.cell? ⟨w.heap.size, 0, none⟩ = some (.int .i64 x.i) := fun g => g.cell (box3 HXB6.out).1
              have k1 : ∀ g : Gr (w5.alloc (.cells #[.int .i64 x.i, .int .i64 fe, .slice q5 k5 d5] 51)), g.w.cell? ⟨w.heap.size, 1, none⟩ = some (.int .i64 x.f) := fun g => g.cell (box3 HXB6.out).2.1
              have k2 : ∀ g : Gr (w5.alloc (.cells #[.int .i64 x.i, .int .i64 fe, .slice q5 k5 d5] 51)), g.w.cell? ⟨w.heap.size, 2, none⟩ = some (.slice pd nd cd) := fun g => g.cell (box3 HXB6.out).2.2
              have ke : ∀ g : Gr (w5.alloc (.cells #[.int .i64 x.i, .int .i64 fe, .slice q5 k5 d5] 51)), g.w.cell? ⟨be, offe + j, none⟩ = some (.int .u8 y) := fun g => g.cell (HXW5.out.cell HC0.out)
              have HTG : Hid (∀ g : Gr (w5.alloc (.cells #[.int .i64 x.i, .int .i64 fe, .slice q5 k5 d5] 51)), Calls Try.prog 21 #[.slice po no co, .agg #[.int .i64 x.i, .int .i64 x.f, .slice pd nd cd], .int .i64 y] g.w fun e w' => e = .returned (.tuple #[.slice po no co, .int .i64 240]) ∧ Ext g.w w') := Lib.hid fun g => HTK.out _ (Ext.trans HXB5.out g.h)
              have HFEN := Lib.hid hfen
              clear hfen
              go_wp2
              refine wp_region_grown (Ext.refl _) (by kernel_rfl) (by kernel_rfl) ?_
              repeat (go_big_quiet_step (first | (go_at_call 21; with_reducible exact Gr.of (HTG.out _))))
              refine wpQuiet_nil ?_
              intro gw
              have hxg := gw.h
              clear k0 k1 k2 ke
              generalize gw.w = w6 at hxg ⊢
              have HX6 := Lib.hid (Ext.trans HXB5.out hxg)
              have HXW6 := Lib.hid (Ext.trans HXW5.out hxg)
              have HXB7 := Lib.hid (Ext.trans HXB6.out hxg)
              have HX14 := Lib.hid hxg
              clear hxg
              obtain ⟨b0, b1, b2⟩ := box3 HXB7.out
              go_wp2_with fail
              refine (rfind_v po no co L x.i w6 (sl_row (HO.out.ext HX6.out)) HT.out.wa).mono ?_
              rintro e w7 ⟨⟨v, rfl, q7, k7, d7, rfl, t7⟩, hx7⟩
              rw [HF.out] at t7 ⊢
              simp only at t7 ⊢
              have HT7 := Lib.hid t7
              have HX7 := Lib.hid (Ext.trans HX6.out (Ext.trans hx7 (Ext.alloc w7 (.cells #[.int .i64 x.i, .int .i64 fe, .slice q7 k7 d7] 51))))
              have HXW7 := Lib.hid (Ext.trans HXW6.out (Ext.trans hx7 (Ext.alloc w7 (.cells #[.int .i64 x.i, .int .i64 fe, .slice q7 k7 d7] 51))))
              have HXB8 := Lib.hid (Ext.trans HXB7.out (Ext.trans hx7 (Ext.alloc w7 (.cells #[.int .i64 x.i, .int .i64 fe, .slice q7 k7 d7] 51))))
              have HX14b := Lib.hid (Ext.trans HX14.out (Ext.trans hx7 (Ext.alloc w7 (.cells #[.int .i64 x.i, .int .i64 fe, .slice q7 k7 d7] 51))))
              have k14 : ∀ g : Gr (w7.alloc (.cells #[.int .i64 x.i, .int .i64 fe, .slice q7 k7 d7] 51)), g.w.cell? ⟨w5.heap.size, 1, none⟩ = some (.int .i64 fe) := fun g => g.cell (box3 HX14b.out).2.1
              have k17 : ∀ g : Gr (w7.alloc (.cells #[.int .i64 x.i, .int .i64 fe, .slice q7 k7 d7] 51)), g.w.cell? ⟨w7.heap.size, 1, none⟩ = some (.int .i64 fe) := fun g => g.cell (box3 (Ext.refl _)).2.1
              have ke : ∀ g : Gr (w7.alloc (.cells #[.int .i64 x.i, .int .i64 fe, .slice q7 k7 d7] 51)), g.w.cell? ⟨be, offe + j, none⟩ = some (.int .u8 y) := fun g => g.cell (HXW7.out.cell HC0.out)
              have hd1 : decide (y < fe) = true := decide_eq_true HFEN.out
              clear t7 hx7 b0 b1 b2
              go_wp2
              refine wp_region_grown (Ext.refl _) (by kernel_rfl) (by kernel_rfl) ?_
              repeat (go_big_quiet_step (fail))
              refine wpQuiet_nil ?_
              intro gw
              have hxg := gw.h
              clear k14 k17 ke hd1
              generalize gw.w = w8 at hxg ⊢
              have HX8 := Lib.hid (Ext.trans HX7.out hxg)
              have HXW8 := Lib.hid (Ext.trans HXW7.out hxg)
              have HXB9 := Lib.hid (Ext.trans HXB8.out hxg)
              clear hxg
              go_wp2_with fail
              refine (rsames_t (sl_row (HO.out.ext HX8.out)) (sl_row (HO.out.ext HX8.out)) rfl).mono ?_
              rintro e w9 ⟨rfl, hx9⟩
              have HX9 := Lib.hid (Ext.trans HX8.out hx9)
              have HXW9 := Lib.hid (Ext.trans HXW8.out hx9)
              have HXB10 := Lib.hid (Ext.trans HXB9.out hx9)
              have ke := HXW9.out.cell HC0.out
              have hfn := (HFE.out.take HXR.out HYB.out.1).1
              have htk : tkL L x y = L := by unfold tkL; rw [if_pos (by rw [HF.out]; exact HFEN.out)]
              rw [htk] at hfn
              have HFN := Lib.hid hfn
              obtain ⟨b0, b1, b2⟩ := box3 HXB10.out
              clear hx9 hfn htk
              by_cases hyr : y < ra
              · have hdr : decide (y < ra) = true := decide_eq_true hyr
                clear hyr
                by_cases ho : oth = x.i
                · have HOE := Lib.hid ho
                  have hob : (oth != x.i) = false := by simp [ho]
                  have hob2 : decide (oth = x.i) = true := decide_eq_true ho
                  clear ho
                  go_wp2
                  go_roundw
                  case rel => exact ⟨j + 1, L, by go_num, by omega, HO.out.ext HX9.out, HFN.out, Ext.trans HX.out HX9.out⟩
                  case measure => simp [intOf]; omega
                · have HOE := Lib.hid ho
                  have hob : (oth != x.i) = true := by simp [ho]
                  have hob2 : decide (oth = x.i) = false := decide_eq_false ho
                  clear ho
                  go_wp2_with fail
                  refine (rfind_v po no co L oth w9 (sl_row (HO.out.ext HX9.out)) HOT.out).mono ?_
                  rintro e w10 ⟨⟨v, rfl, qa, ka, da, rfl, ta⟩, hx10⟩
                  have hsm : findS L oth = findS l oth := HFE.out.oth HOE.out
                  have HSM := Lib.hid hsm
                  obtain ⟨G, hG⟩ : ∃ G, findS L oth = G := ⟨_, rfl⟩
                  rw [hG] at ta ⊢
                  have HG := Lib.hid hG
                  have HTA := Lib.hid ta
                  have HX10 := Lib.hid (Ext.trans HX9.out (Ext.trans hx10 (Ext.alloc w10 (.cells #[.int .i64 G.i, .int .i64 G.e, .slice qa ka da] 51))))
                  have HXW10 := Lib.hid (Ext.trans HXW9.out (Ext.trans hx10 (Ext.alloc w10 (.cells #[.int .i64 G.i, .int .i64 G.e, .slice qa ka da] 51))))
                  clear hsm hG ta hx10 b0 b1 b2 ke
                  go_wp2_with fail
                  refine (rfind_v p n c l oth _ (sl_row (HL.out.ext HXW10.out)) HOT.out).mono ?_
                  rintro e w11 ⟨⟨v, rfl, qb, kb, db, rfl, tb⟩, hx11⟩
                  rw [← HSM.out, HG.out] at tb ⊢
                  have HTB := Lib.hid tb
                  have HRA1 := Lib.hid (sfs_one 51 (TriC.ext HTA.out (Ext.trans (Ext.alloc w10 (.cells #[.int .i64 G.i, .int .i64 G.e, .slice qa ka da] 51)) (Ext.trans hx11 (Ext.alloc w11 (.cells #[.int .i64 G.i, .int .i64 G.e, .slice qb kb db] 51))))) (Ext.trans hx11 (Ext.alloc w11 (.cells #[.int .i64 G.i, .int .i64 G.e, .slice qb kb db] 51))))
                  have HRB1 := Lib.hid (sfs_one 51 (TriC.ext HTB.out (Ext.alloc w11 (.cells #[.int .i64 G.i, .int .i64 G.e, .slice qb kb db] 51))) (Ext.refl (w11.alloc (.cells #[.int .i64 G.i, .int .i64 G.e, .slice qb kb db] 51))))
                  have HX11 := Lib.hid (Ext.trans HX10.out (Ext.trans hx11 (Ext.alloc w11 (.cells #[.int .i64 G.i, .int .i64 G.e, .slice qb kb db] 51))))
                  clear tb hx11
                  go_wp2_with fail
                  refine (rsames_t HRA1.out HRB1.out rfl).mono ?_
                  rintro e w12 ⟨rfl, hx12⟩
                  have HX12 := Lib.hid (Ext.trans HX11.out hx12)
                  clear hx12
                  go_wp2
                  go_roundw
                  case rel => exact ⟨j + 1, L, by go_num, by omega, HO.out.ext HX12.out, HFN.out, Ext.trans HX.out HX12.out⟩
                  case measure => simp [intOf]; omega
              · have hdr : decide (y < ra) = false := decide_eq_false hyr
                clear hyr
                by_cases ho : oth = x.i
                · have HOE := Lib.hid ho
                  have hob : (oth != x.i) = false := by simp [ho]
                  have hob2 : decide (oth = x.i) = true := decide_eq_true ho
                  clear ho
                  go_wp2
                  go_roundw
                  case rel => exact ⟨j + 1, L, by go_num, by omega, HO.out.ext HX9.out, HFN.out, Ext.trans HX.out HX9.out⟩
                  case measure => simp [intOf]; omega
                · have HOE := Lib.hid ho
                  have hob : (oth != x.i) = true := by simp [ho]
                  have hob2 : decide (oth = x.i) = false := decide_eq_false ho
                  clear ho
                  go_wp2_with fail
                  refine (rfind_v po no co L oth w9 (sl_row (HO.out.ext HX9.out)) HOT.out).mono ?_
                  rintro e w10 ⟨⟨v, rfl, qa, ka, da, rfl, ta⟩, hx10⟩
                  have hsm : findS L oth = findS l oth := HFE.out.oth HOE.out
                  have HSM := Lib.hid hsm
                  obtain ⟨G, hG⟩ : ∃ G, findS L oth = G := ⟨_, rfl⟩
                  rw [hG] at ta ⊢
                  have HG := Lib.hid hG
                  have HTA := Lib.hid ta
                  have HX10 := Lib.hid (Ext.trans HX9.out (Ext.trans hx10 (Ext.alloc w10 (.cells #[.int .i64 G.i, .int .i64 G.e, .slice qa ka da] 51))))
                  have HXW10 := Lib.hid (Ext.trans HXW9.out (Ext.trans hx10 (Ext.alloc w10 (.cells #[.int .i64 G.i, .int .i64 G.e, .slice qa ka da] 51))))
                  clear hsm hG ta hx10 b0 b1 b2 ke
                  go_wp2_with fail
                  refine (rfind_v p n c l oth _ (sl_row (HL.out.ext HXW10.out)) HOT.out).mono ?_
                  rintro e w11 ⟨⟨v, rfl, qb, kb, db, rfl, tb⟩, hx11⟩
                  rw [← HSM.out, HG.out] at tb ⊢
                  have HTB := Lib.hid tb
                  have HRA1 := Lib.hid (sfs_one 51 (TriC.ext HTA.out (Ext.trans (Ext.alloc w10 (.cells #[.int .i64 G.i, .int .i64 G.e, .slice qa ka da] 51)) (Ext.trans hx11 (Ext.alloc w11 (.cells #[.int .i64 G.i, .int .i64 G.e, .slice qb kb db] 51))))) (Ext.trans hx11 (Ext.alloc w11 (.cells #[.int .i64 G.i, .int .i64 G.e, .slice qb kb db] 51))))
                  have HRB1 := Lib.hid (sfs_one 51 (TriC.ext HTB.out (Ext.alloc w11 (.cells #[.int .i64 G.i, .int .i64 G.e, .slice qb kb db] 51))) (Ext.refl (w11.alloc (.cells #[.int .i64 G.i, .int .i64 G.e, .slice qb kb db] 51))))
                  have HX11 := Lib.hid (Ext.trans HX10.out (Ext.trans hx11 (Ext.alloc w11 (.cells #[.int .i64 G.i, .int .i64 G.e, .slice qb kb db] 51))))
                  clear tb hx11
                  go_wp2_with fail
                  refine (rsames_t HRA1.out HRB1.out rfl).mono ?_
                  rintro e w12 ⟨rfl, hx12⟩
                  have HX12 := Lib.hid (Ext.trans HX11.out hx12)
                  clear hx12
                  go_wp2
                  go_roundw
                  case rel => exact ⟨j + 1, L, by go_num, by omega, HO.out.ext HX12.out, HFN.out, Ext.trans HX.out HX12.out⟩
                  case measure => simp [intOf]; omega
            · obtain ⟨N, hN⟩ : ∃ N, withS L ⟨x.i, y, layP fd x⟩ = N := ⟨_, rfl⟩
              have HN := Lib.hid hN
              have htk : tkL L x y = N := by unfold tkL; rw [if_neg (by rw [HF.out]; exact hfen), HF.out]; exact hN
              have htc : tkC L x y = 0 := by unfold tkC; rw [if_neg (by rw [HF.out]; exact hfen)]
              have HTN := Lib.hid htk
              have HTK : Hid (∀ W, Ext wr W → Calls Try.prog 21 #[.slice po no co, .agg #[.int .i64 x.i, .int .i64 x.f, .slice pd nd cd], .int .i64 y] W fun e w' => (∃ va, e = .returned (.tuple #[va, .int .i64 0]) ∧ LSf.Sl w' va N) ∧ Ext W w') := Lib.hid fun W hW =>
                (take_v (.slice po no co) L x pd nd cd y W (HO.out.ext hW) HFE.out.ok.2 (by have := HLEN.out; omega) (fun z hz => by have := (HFE.out.ok.1 z hz).2.2; omega) (TriC.ext HT.out (Ext.trans HXW.out hW)) HXR.out.ok (wf_byte HYB.out)).mono fun e w' ⟨h1, h2⟩ => by
                  obtain ⟨va, e1, e2⟩ := ret_take h1 (HO.out.ext (Ext.trans hW h2))
                  rw [htk] at e2
                  rw [htc] at e1
                  exact ⟨⟨va, e1, e2⟩, h2⟩
              have HS : Hid (∀ w', Ext wr w' → w'.cell? ⟨w.heap.size, 0, none⟩ = some (.int .i64 x.i) ∧ w'.cell? ⟨w.heap.size, 1, none⟩ = some (.int .i64 x.f) ∧ w'.cell? ⟨w.heap.size, 2, none⟩ = some (.slice pd nd cd) ∧ w'.cell? ⟨be, offe + j, none⟩ = some (.int .u8 y)) := Lib.hid fun w' h => ⟨h.cell (box3 HXB.out).1, h.cell (box3 HXB.out).2.1, h.cell (box3 HXB.out).2.2, h.cell (HXW.out.cell HC0.out)⟩
              have hyy : Ext (w5.alloc (.cells #[.int .i64 x.i, .int .i64 fe, .slice q5 k5 d5] 51)) (w5.alloc (.cells #[.int .i64 x.i, .int .i64 fe, .slice q5 k5 d5] 51)).drew := Ext.drew (Ext.refl _)
              have hxx : Ext wr (w5.alloc (.cells #[.int .i64 x.i, .int .i64 fe, .slice q5 k5 d5] 51)).drew := Ext.trans HXB5.out hyy
              have HFEN := Lib.hid hfen
              clear hfen hN htk htc
              go_wp2
              go_region_held3 (fun w' => w'.cell? ⟨w.heap.size, 0, none⟩ = some (.int .i64 x.i) ∧ w'.cell? ⟨w.heap.size, 1, none⟩ = some (.int .i64 x.f) ∧ w'.cell? ⟨w.heap.size, 2, none⟩ = some (.slice pd nd cd) ∧ w'.cell? ⟨be, offe + j, none⟩ = some (.int .u8 y)) ((refine HS.out _ ?_; first | (with_reducible exact hxx))) ((go_at_call 21; refine (HTK.out _ hxx).mono ?_; rintro e w6 ⟨⟨va, rfl, hv⟩, hx6⟩; obtain ⟨pv, nv, cv, rfl, hnv⟩ := sl_form hv; have HV := Lib.hid hv; replace hxx := Ext.trans hxx hx6; replace hyy := Ext.trans hyy hx6; clear hv hnv hx6))
              have HX6 := Lib.hid hxx
              have HX14 := Lib.hid hyy
              have HXW6 := Lib.hid (Ext.trans HXW.out hxx)
              have HXB7 := Lib.hid (Ext.trans HXB.out hxx)
              clear hxx hyy
              obtain ⟨b0, b1, b2⟩ := box3 HXB7.out
              go_wp2_with fail
              refine (rfind_v pv nv cv N x.i w6 (sl_row HV.out) HT.out.wa).mono ?_
              rintro e w7 ⟨⟨v, rfl, q7, k7, d7, rfl, t7⟩, hx7⟩
              have hfw : findS N x.i = ⟨x.i, y, layP fd x⟩ := by rw [← HN.out, find_with, if_pos rfl]
              rw [hfw] at t7 ⊢
              simp only at t7 ⊢
              have HT7 := Lib.hid t7
              have HX7 := Lib.hid (Ext.trans HX6.out (Ext.trans hx7 (Ext.alloc w7 (.cells #[.int .i64 x.i, .int .i64 y, .slice q7 k7 d7] 51))))
              have HXW7 := Lib.hid (Ext.trans HXW6.out (Ext.trans hx7 (Ext.alloc w7 (.cells #[.int .i64 x.i, .int .i64 y, .slice q7 k7 d7] 51))))
              have HXB8 := Lib.hid (Ext.trans HXB7.out (Ext.trans hx7 (Ext.alloc w7 (.cells #[.int .i64 x.i, .int .i64 y, .slice q7 k7 d7] 51))))
              have HX14b := Lib.hid (Ext.trans HX14.out (Ext.trans hx7 (Ext.alloc w7 (.cells #[.int .i64 x.i, .int .i64 y, .slice q7 k7 d7] 51))))
              have HV7 := Lib.hid (HV.out.ext (Ext.trans hx7 (Ext.alloc w7 (.cells #[.int .i64 x.i, .int .i64 y, .slice q7 k7 d7] 51))))
              have k14 : ∀ g : Gr (w7.alloc (.cells #[.int .i64 x.i, .int .i64 y, .slice q7 k7 d7] 51)), g.w.cell? ⟨w5.heap.size, 1, none⟩ = some (.int .i64 fe) := fun g => g.cell (box3 HX14b.out).2.1
              have k17 : ∀ g : Gr (w7.alloc (.cells #[.int .i64 x.i, .int .i64 y, .slice q7 k7 d7] 51)), g.w.cell? ⟨w7.heap.size, 1, none⟩ = some (.int .i64 y) := fun g => g.cell (box3 (Ext.refl _)).2.1
              have ke : ∀ g : Gr (w7.alloc (.cells #[.int .i64 x.i, .int .i64 y, .slice q7 k7 d7] 51)), g.w.cell? ⟨be, offe + j, none⟩ = some (.int .u8 y) := fun g => g.cell (HXW7.out.cell HC0.out)
              have hd1 : decide (y < fe) = false := decide_eq_false (Int.not_lt.2 HFEN.out)
              clear t7 hx7 b0 b1 b2 hfw
              go_wp2
              refine wp_region_grown (Ext.refl _) (by kernel_rfl) (by kernel_rfl) ?_
              repeat (go_big_quiet_step (fail))
              refine wpQuiet_nil ?_
              intro gw
              have hxg := gw.h
              clear k14 k17 ke hd1
              generalize gw.w = w8 at hxg ⊢
              have HX8 := Lib.hid (Ext.trans HX7.out hxg)
              have HXW8 := Lib.hid (Ext.trans HXW7.out hxg)
              have HXB9 := Lib.hid (Ext.trans HXB8.out hxg)
              have HX14c := Lib.hid (Ext.trans HX14b.out hxg)
              have HX17 := Lib.hid hxg
              have HV8 := Lib.hid (HV7.out.ext hxg)
              clear hxg
              obtain ⟨b0, b1, b2⟩ := box3 HXB9.out
              obtain ⟨e0, e1, e2⟩ := box3 HX14c.out
              have ke := HXW8.out.cell HC0.out
              have hup := HFE.out.up
              rw [HF.out] at hup
              have hyra : ¬ y < ra := by have := HFEN.out; simp only at hup; omega
              have hdr : decide (y < ra) = false := decide_eq_false hyra
              have HT5b := Lib.hid (TriC.ext HT5.out (Ext.trans (Ext.alloc w5 (.cells #[.int .i64 x.i, .int .i64 fe, .slice q5 k5 d5] 51)) HX14c.out))
              have HFD : Hid (fd.length ≤ 10000) := Lib.hid (by have h := (find_ok HFE.out.ok x.i).2; rw [HF.out] at h; simp only at h; omega)
              clear hup hyra
              go_wp2_with fail
              refine (lay_v (.slice q5 k5 d5) fd x.d x.f pd nd cd w8 (Lay.Sl.mk HT5b.out.row HT5b.out.nc HT5b.out.cm HT5b.out.pl) (Lay.Sl.ext (Lay.Sl.mk HT.out.row HT.out.nc HT.out.cm HT.out.pl) HXW8.out) HFD.out HT.out.wb).mono ?_
              rintro e w9 ⟨⟨v3, c3, rfl, h1, h2, h3⟩, hx9⟩
              obtain ⟨rfl, ho3⟩ := h3 HXR.out.2.1 (fun _ => HXR.out.2.2.2)
              rw [rlaid_ne _ _ HXR.out.2.2.1] at ho3
              obtain ⟨pz, nz, cz, rfl⟩ := own_form ho3
              have HZ : Hid ((Lay.int .u8).Sl w9 (.slice pz nz cz) (layP fd x)) := Lib.hid ho3.sl
              have HX9 := Lib.hid (Ext.trans HX8.out hx9)
              have HXW9 := Lib.hid (Ext.trans HXW8.out hx9)
              have HXB10 := Lib.hid (Ext.trans HXB9.out hx9)
              have HX17b := Lib.hid (Ext.trans HX17.out hx9)
              have HV9 := Lib.hid (HV8.out.ext hx9)
              clear h1 h2 h3 ho3 hx9 b0 b1 b2 e0 e1 e2 ke hdr
              have k17a : ∀ g : Gr w9, g.w.cell? ⟨w7.heap.size, 1, none⟩ = some (.int .i64 y) := fun g => g.cell (box3 HX17b.out).2.1
              have k17b : ∀ g : Gr w9, g.w.cell? ⟨w7.heap.size, 2, none⟩ = some (.slice q7 k7 d7) := fun g => g.cell (box3 HX17b.out).2.2
              have ke : ∀ g : Gr w9, g.w.cell? ⟨be, offe + j, none⟩ = some (.int .u8 y) := fun g => g.cell (HXW9.out.cell HC0.out)
              have HBY : Hid (∀ g : Gr w9, Calls Try.prog 17 #[.slice q7 k7 d7, .slice pz nz cz] g.w fun e w' => e = .returned (.bool true) ∧ Ext g.w w') := Lib.hid fun g =>
                rbytes_t (HT7.out.row.ext (Ext.trans (Ext.alloc w7 (.cells #[.int .i64 x.i, .int .i64 y, .slice q7 k7 d7] 51)) (Ext.trans HX17b.out g.h))) (sl_row (HZ.out.ext g.h)) rfl
              go_wp2
              refine wp_region_grown (Ext.refl _) (by kernel_rfl) (by kernel_rfl) ?_
              repeat (go_big_quiet_step (first | (go_at_call 17; with_reducible exact Gr.of (HBY.out _))))
              refine wpQuiet_nil ?_
              intro gw
              have hxg := gw.h
              clear k17a k17b ke
              generalize gw.w = wg at hxg ⊢
              have HXg := Lib.hid (Ext.trans HX9.out hxg)
              have HXWg := Lib.hid (Ext.trans HXW9.out hxg)
              have HXBg := Lib.hid (Ext.trans HXB10.out hxg)
              have HVg := Lib.hid (HV9.out.ext hxg)
              have hfn := (HFE.out.take HXR.out HYB.out.1).1
              rw [HTN.out] at hfn
              have HFN := Lib.hid hfn
              obtain ⟨b0, b1, b2⟩ := box3 HXBg.out
              clear hxg hfn
              by_cases ho : oth = x.i
              · have HOE := Lib.hid ho
                have hob : (oth != x.i) = false := by simp [ho]
                have hob2 : decide (oth = x.i) = true := decide_eq_true ho
                clear ho
                go_wp2
                go_roundw
                case rel => exact ⟨j + 1, N, by go_num, by omega, HVg.out, HFN.out, Ext.trans HX.out HXg.out⟩
                case measure => simp [intOf]; omega
              · have HOE := Lib.hid ho
                have hob : (oth != x.i) = true := by simp [ho]
                have hob2 : decide (oth = x.i) = false := decide_eq_false ho
                clear ho
                go_wp2_with fail
                refine (rfind_v pv nv cv N oth wg (sl_row HVg.out) HOT.out).mono ?_
                rintro e w10 ⟨⟨v, rfl, qa, ka, da, rfl, ta⟩, hx10⟩
                have hsm : findS N oth = findS l oth := HFN.out.oth HOE.out
                have HSM := Lib.hid hsm
                obtain ⟨G, hG⟩ : ∃ G, findS N oth = G := ⟨_, rfl⟩
                rw [hG] at ta ⊢
                have HG := Lib.hid hG
                have HTA := Lib.hid ta
                have HX10 := Lib.hid (Ext.trans HXg.out (Ext.trans hx10 (Ext.alloc w10 (.cells #[.int .i64 G.i, .int .i64 G.e, .slice qa ka da] 51))))
                have HXW10 := Lib.hid (Ext.trans HXWg.out (Ext.trans hx10 (Ext.alloc w10 (.cells #[.int .i64 G.i, .int .i64 G.e, .slice qa ka da] 51))))
                have HV10 := Lib.hid (HVg.out.ext (Ext.trans hx10 (Ext.alloc w10 (.cells #[.int .i64 G.i, .int .i64 G.e, .slice qa ka da] 51))))
                clear hsm hG ta hx10 b0 b1 b2
                go_wp2_with fail
                refine (rfind_v p n c l oth _ (sl_row (HL.out.ext HXW10.out)) HOT.out).mono ?_
                rintro e w11 ⟨⟨v, rfl, qb, kb, db, rfl, tb⟩, hx11⟩
                rw [← HSM.out, HG.out] at tb ⊢
                have HTB := Lib.hid tb
                have HRA1 := Lib.hid (sfs_one 51 (TriC.ext HTA.out (Ext.trans (Ext.alloc w10 (.cells #[.int .i64 G.i, .int .i64 G.e, .slice qa ka da] 51)) (Ext.trans hx11 (Ext.alloc w11 (.cells #[.int .i64 G.i, .int .i64 G.e, .slice qb kb db] 51))))) (Ext.trans hx11 (Ext.alloc w11 (.cells #[.int .i64 G.i, .int .i64 G.e, .slice qb kb db] 51))))
                have HRB1 := Lib.hid (sfs_one 51 (TriC.ext HTB.out (Ext.alloc w11 (.cells #[.int .i64 G.i, .int .i64 G.e, .slice qb kb db] 51))) (Ext.refl (w11.alloc (.cells #[.int .i64 G.i, .int .i64 G.e, .slice qb kb db] 51))))
                have HX11 := Lib.hid (Ext.trans HX10.out (Ext.trans hx11 (Ext.alloc w11 (.cells #[.int .i64 G.i, .int .i64 G.e, .slice qb kb db] 51))))
                have HV11 := Lib.hid (HV10.out.ext (Ext.trans hx11 (Ext.alloc w11 (.cells #[.int .i64 G.i, .int .i64 G.e, .slice qb kb db] 51))))
                clear tb hx11
                go_wp2_with fail
                refine (rsames_t HRA1.out HRB1.out rfl).mono ?_
                rintro e w12 ⟨rfl, hx12⟩
                have HX12 := Lib.hid (Ext.trans HX11.out hx12)
                have HV12 := Lib.hid (HV11.out.ext hx12)
                clear hx12
                go_wp2
                go_roundw
                case rel => exact ⟨j + 1, N, by go_num, by omega, HV12.out, HFN.out, Ext.trans HX.out HX12.out⟩
                case measure => simp [intOf]; omega
          · obtain rfl : j = ne := by omega
            go_wp2_with fail
            refine (rstor_any po no co L wr (sl_row HO.out)).mono ?_
            rintro e w5 ⟨⟨b, rfl, hb⟩, hx5⟩
            obtain rfl : b = true := hb.2 HFE.out.ok
            go_wp2
            go_ret
            exact ⟨rfl, Ext.trans HXW.out hx5⟩
end Go.Proofs.Ytcajmgdenhegjaa.Wr
