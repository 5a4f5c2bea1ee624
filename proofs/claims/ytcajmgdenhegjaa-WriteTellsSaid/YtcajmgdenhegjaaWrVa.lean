/- Written bytes: the reference's Put. -/
import Derived.Test.YtcajmgdenhegjaaWrX
import Derived.Test.YtcajmgdenhegjaaWrTa
namespace Go.Proofs.Ytcajmgdenhegjaa.Wr
open Go.RowKit Go.Proofs.Ytcajmgdenhegjaa
set_option linter.unusedVariables false

/-- the last place of a file's pieces among the first j -/
def LastI (l : List Pc) (m : Int) (j : Nat) (la : Value) : Prop :=
  (la = .int .i64 (-1) ∧ ∀ (s : Nat) (y : Pc), s < j → l[s]? = some y → y.i ≠ m) ∨
  ∃ (k : Nat) (x : Pc), la = .int .i64 (k : Int) ∧ k < j ∧ l[k]? = some x ∧ x.i = m ∧ ∀ (s : Nat) (y : Pc), k < s → s < j → l[s]? = some y → y.i ≠ m
theorem LastI.no {l : List Pc} {m : Int} {j : Nat} {la : Value} {y : Pc} (h : LastI l m j la) (hy : l[j]? = some y) (hi : y.i ≠ m) : LastI l m (j + 1) la := by
  rcases h with ⟨h1, h2⟩ | ⟨k, x, h1, h2, h3, h4, h5⟩
  · refine .inl ⟨h1, fun s z hs hz => ?_⟩
    by_cases e : s = j
    · subst e; rw [hy] at hz; cases hz; exact hi
    · exact h2 s z (by omega) hz
  · refine .inr ⟨k, x, h1, by omega, h3, h4, fun s z hs hs2 hz => ?_⟩
    by_cases e : s = j
    · subst e; rw [hy] at hz; cases hz; exact hi
    · exact h5 s z hs (by omega) hz
theorem LastI.hit {l : List Pc} {m : Int} {j : Nat} {y : Pc} (hy : l[j]? = some y) (hi : y.i = m) : LastI l m (j + 1) (.int .i64 (j : Int)) :=
  .inr ⟨j, y, rfl, by omega, hy, hi, fun s z hs hs2 _ => by omega⟩
theorem rlaid_len (F : List Int) (k : Nat) (d : List Int) : (rlaidL F k d).length ≤ max F.length (k + d.length) := by
  unfold rlaidL
  rw [byB_length F k d _ (Nat.le_refl _)]
  split <;> omega
def RLastR (w2 : World) (l : List Pc) (m : Int) (n : Nat) (la i : Value) (wr : World) : Prop :=
  ∃ j : Nat, i = .int .i64 j ∧ j ≤ n ∧ Hid (LastI l m j la) ∧ wr = w2
theorem idx_none {l : List Pc} {m : Int} (h : ∀ (s : Nat) (y : Pc), s < l.length → l[s]? = some y → y.i ≠ m) : ∀ y ∈ l, y.i ≠ m := fun y hy => by
  obtain ⟨s, hs⟩ := List.mem_iff_getElem?.1 hy
  exact h s y (List.getElem?_eq_some_iff.1 hs).1 hs
set_option maxRecDepth 100000 in
set_option maxHeartbeats 8000000 in
theorem rput_v (p : Option Addr) (n c : Nat) (l : List Pc) (m f : Int) (pd : Option Addr) (nd cd : Nat) (data : List Int) (w : World) (hl : LPc.Sl w (.slice p n c) l) (hr : AllR l) (hb : n ≤ 1000) (hd : (Lay.int .u8).Sl w (.slice pd nd cd) data) (hm : (Lit.int .i64 m).wf = true) (hf : (Lit.int .i64 f).wf = true) :
    Calls Try.prog 16 #[.slice p n c, .int .i64 m, .int .i64 f, .slice pd nd cd] w fun e w' => RetPut w' l ⟨m, f, data⟩ e ∧ Ext w w' := by
  obtain ⟨i0, hi0, hzi0, hzi1, hzi2⟩ := info_parts info_pc
  have HL := Lib.hid hl
  obtain ⟨hrow, hnc, hcm, hpl⟩ := sl_parts hl
  have HP := Lib.hid hrow
  have HPL := Lib.hid hpl
  have HR := Lib.hid hr
  have HNB := Lib.hid hb
  have hn := hrow.2.1
  have hxA : Ext w (w.alloc (.cells #[.int .i64 m, .int .i64 f, .slice pd nd cd] 30)) := Ext.alloc _ _
  have HXA := Lib.hid hxA
  have htr := TriC.ext (tri_mk hd hm hf) hxA
  have HT := Lib.hid htr
  have HND := Lib.hid htr.row.1
  have hri := rright_any ⟨m, f, data⟩ pd nd cd (w.alloc (.cells #[.int .i64 m, .int .i64 f, .slice pd nd cd] 30)) htr
  have HB := Lib.hid (rightB_iff ⟨m, f, data⟩)
  obtain ⟨B, hB⟩ : ∃ B, rightB ⟨m, f, data⟩ = B := ⟨_, rfl⟩
  rw [hB] at hri
  have HRI := Lib.hid hri
  have HBB := Lib.hid hB
  clear hl hrow hpl hr hb hxA hd hm hf hri htr hB
  go_enter Try.func16, Try.ntmps16
  go_wp2_with fail
  refine HRI.out.mono ?_
  rintro e w2 ⟨rfl, hx2⟩
  have HX2 := Lib.hid hx2
  clear hx2
  cases B with
  | false =>
    go_wp2
    go_ret
    exact ⟨⟨_, l, rfl, HL.out.ext (Ext.trans HXA.out HX2.out), PutS.not (fun h => by have := HB.out.2 h; rw [HBB.out] at this; cases this)⟩, Ext.trans HXA.out HX2.out⟩
  | true =>
    have hright := HB.out.1 HBB.out
    have HRT := Lib.hid hright
    obtain ⟨fN, hfN⟩ : ∃ k : Nat, f = (k : Int) := ⟨f.toNat, by have := hright.2.1; simp only at this; omega⟩
    have hfe : fN + nd ≤ 4096 := by have h := hright.2.2.2; unfold Pc.e at h; simp only at h; rw [HND.out, hfN] at h; omega
    subst hfN
    have hde := hright.2.2.1
    simp only at hde
    have HDE := Lib.hid hde
    clear hright hde
    go_wp2
    go_loopw [10, 11] (fun la i wr => RLastR w2 l m n la i wr) (fun _ i _ => n - (intOf i).toNat)
    case atStart => exact ⟨0, rfl, by omega, Lib.hid (.inl ⟨rfl, fun s y hs => by omega⟩), rfl⟩
    case round =>
      obtain ⟨j, rfl, hj, HLA, rfl⟩ := hrel
      by_cases hlt : j < n
      · have hlt' : (j : Int) < (n : Int) := by omega
        have hlt0 : (0 : Int) ≤ (j : Int) := by omega
        obtain ⟨x, gx⟩ : ∃ x, l[j]? = some x := ⟨_, List.getElem?_eq_getElem (by rw [HP.out.1]; exact hlt)⟩
        obtain ⟨b, off, p1, n1, c1, rfl, x0, x1, x2, tx⟩ := pc_at HP.out gx
        replace x0 := HX2.out.cell (HXA.out.cell x0)
        replace x1 := HX2.out.cell (HXA.out.cell x1)
        replace x2 := HX2.out.cell (HXA.out.cell x2)
        have GX := Lib.hid gx
        clear gx tx
        by_cases hi : x.i = m
        · have HI := Lib.hid hi
          have hb : (x.i == m) = true := by simp [hi]
          clear hi
          go_wp2
          go_roundw
          case rel => exact ⟨j + 1, by go_num, by omega, Lib.hid (LastI.hit GX.out HI.out), rfl⟩
          case measure => simp [intOf]; omega
        · have HI := Lib.hid hi
          have hb : (x.i == m) = false := by simp [hi]
          clear hi
          go_wp2
          go_roundw
          case rel => exact ⟨j + 1, by go_num, by omega, Lib.hid (HLA.out.no GX.out HI.out), rfl⟩
          case measure => simp [intOf]; omega
      · obtain rfl : j = n := by omega
        have hb2 : w.heap.size + 1 ≤ wr.heap.size := by have := HX2.out.size; simpa using this
        have HB2 := Lib.hid hb2
        have HO0 : Hid (LPc.Own (wr.alloc (.cells #[] 30)) (w.heap.size + 1) 30 (.slice (some ⟨wr.heap.size, 0, none⟩) 0 0) []) := Lib.hid (Lay.Own.made (E := LPc) wr #[] 0 (w.heap.size + 1) 30 hb2 (by decide) rfl)
        have HXC0 : Hid (Ext (w.alloc (.cells #[.int .i64 m, .int .i64 (fN : Int), .slice pd nd cd] 30)) (wr.alloc (.cells #[] 30))) := Lib.hid (Ext.trans HX2.out (Ext.alloc _ _))
        clear hb2
        rcases HLA.out with ⟨rfl, hno⟩ | ⟨k, x, rfl, hkn, gx, hxi, hno⟩
        · have HNO := Lib.hid hno
          clear hno
          go_wp2_with (at_builtin; refine Lay.wpList_append (E := LPc) rfl (.tmp 37) (.tmp 38) 22 rfl (w.heap.size + 1) 30 i0 (.agg #[.int .i64 0, .int .i64 0, .slice none 0 0]) 40 Try.underlying22 hi0 hzi0 hzi1 hzi2 rfl (.slice (some ⟨wr.heap.size, 0, none⟩) 0 0) [] rfl HO0.out p j c l rfl HPL.out (by omega) (HP.out.keep (Ext.trans HXA.out HXC0.out) (fun k hk => by have := (HO0.out.lt k hk).1; omega)) (by have := HNB.out; unfold maxLen; simp; omega) (by have := HNB.out; simp; omega) (by have := HB2.out; simp; omega) ?_; intro v3 w3 hown3 hg3)
          have HX3 := Lib.hid (HO0.out.below HXC0.out (by simp) hg3)
          have HO3 : Hid (LPc.Own w3 (w.heap.size + 1) 30 v3 l) := Lib.hid (by simpa using hown3)
          clear hown3 hg3 HO0

          have hg0 : decide ((-1 : Int) < 0) = true := by decide

          refine wp_region_grown (Ext.refl w3) (by kernel_rfl) (by kernel_rfl) ?_
          repeat (go_big_quiet_step (fail))
          refine wpQuiet_nil ?_
          intro gw
          have hxg := gw.h
          clear hg0
          generalize gw.w = w4 at hxg ⊢
          have HX4 := Lib.hid (Ext.trans HX3.out hxg)
          have HO4 := Lib.hid (HO3.out.ext hxg)
          clear hxg

          obtain ⟨f0, f1, f2⟩ := box3 HX4.out
          have HXC := Lib.hid (Ext.trans HX4.out (Ext.alloc w4 (.cells #[.int .i64 m, .int .i64 (fN : Int), .slice pd nd cd] 30)))
          have HOA := Lib.hid (HO4.out.ext (Ext.alloc w4 (.cells #[.int .i64 m, .int .i64 (fN : Int), .slice pd nd cd] 30)))
          have HRK : Hid (LPc.RowK (w4.alloc (.cells #[.int .i64 m, .int .i64 (fN : Int), .slice pd nd cd] 30)) v3.ownBlock (some ⟨w4.heap.size, 0, none⟩) 1 [⟨m, (fN : Int), data⟩]) := Lib.hid (Lay.RowK.lit (Ext.refl _) (pc_keep HT.out HXC.out (fun k hk => (by have := (HOA.out.lt k hk).1; simp; omega))) rfl rfl (by decide))
          go_wp2_with (at_builtin; refine Lay.wpList_append (E := LPc) rfl (.tmp 70) (.tmp 72) 22 rfl (w.heap.size + 1) 30 i0 (.agg #[.int .i64 0, .int .i64 0, .slice none 0 0]) 40 Try.underlying22 hi0 hzi0 hzi1 hzi2 rfl v3 l rfl HOA.out (some ⟨w4.heap.size, 0, none⟩) 1 1 [⟨m, (fN : Int), data⟩] rfl (fun _ => ⟨_, _, rfl⟩) (Nat.le_refl _) HRK.out (by have h := HP.out.1; have := HNB.out; unfold maxLen; simp; omega) (by have h := HP.out.1; have := HNB.out; simp; omega) (by have := HXC.out.size; simp at this; simp; omega) ?_; intro v5 w5 hown5 hg5)
          have HX5 := Lib.hid (HOA.out.below HXC.out (by simp) hg5)
          have HO5 := Lib.hid hown5
          clear hown5 hg5 f0 f1 f2 HXC HOA HRK
          go_wp2
          go_ret
          exact ⟨⟨_, _, rfl, HO5.out.sl, PutS.new HRT.out (idx_none (fun s y hs hy => HNO.out s y (by rw [HP.out.1] at hs; exact hs) hy))⟩, Ext.trans HXA.out HX5.out⟩
        · have HNO := Lib.hid hno
          have HXI := Lib.hid hxi
          have HGX := Lib.hid gx
          have HXR := Lib.hid (HR.out x (List.mem_of_getElem? gx))
          obtain ⟨b, off, p1, n1, c1, rfl, x0, x1, x2, tx⟩ := pc_at HP.out gx
          have HTX := Lib.hid tx
          have HY0 := Lib.hid (HXA.out.cell x0)
          have HY1 := Lib.hid (HXA.out.cell x1)
          have HY2 := Lib.hid (HXA.out.cell x2)
          have HN1 := Lib.hid tx.row.1
          have hxr := HXR.out
          obtain ⟨xf, hxf⟩ : ∃ k : Nat, x.f = (k : Int) := ⟨x.f.toNat, by have := hxr.2.1; omega⟩
          have hxe : xf + n1 ≤ 4096 := by have h := hxr.2.2.2; unfold Pc.e at h; rw [HN1.out] at h; omega
          have HXE : Hid (x.e = ((xf + n1 : Nat) : Int)) := Lib.hid (by unfold Pc.e; rw [HN1.out]; omega)
          have HXF := Lib.hid hxf
          have HBE : Hid ((⟨m, (fN : Int), data⟩ : Pc).e = ((fN + nd : Nat) : Int)) := Lib.hid (by unfold Pc.e; simp only; rw [HND.out]; omega)
          rw [hxf] at HY1
          have HLAST := Lib.hid (lastAt_idx gx hxi (fun s y hs hy => hno s y hs (by have := (List.getElem?_eq_some_iff.1 hy).1; rw [HP.out.1] at this; exact this) hy))
          have hk0 : (0 : Int) ≤ (k : Int) := by omega
          have hk1 : (k : Int) < (j : Int) := by omega
          clear hno hxi gx tx x0 x1 x2 hxr hxf

          by_cases h1 : xf + n1 < fN
          · have H1 := Lib.hid h1
            clear h1

            go_wp2_with (at_builtin; refine Lay.wpList_append (E := LPc) rfl (.tmp 37) (.tmp 38) 22 rfl (w.heap.size + 1) 30 i0 (.agg #[.int .i64 0, .int .i64 0, .slice none 0 0]) 40 Try.underlying22 hi0 hzi0 hzi1 hzi2 rfl (.slice (some ⟨wr.heap.size, 0, none⟩) 0 0) [] rfl HO0.out _ j c l rfl HPL.out (by omega) (HP.out.keep (Ext.trans HXA.out HXC0.out) (fun k hk => by have := (HO0.out.lt k hk).1; omega)) (by have := HNB.out; unfold maxLen; simp; omega) (by have := HNB.out; simp; omega) (by have := HB2.out; simp; omega) ?_; intro v3 w3 hown3 hg3)
            have HX3 := Lib.hid (HO0.out.below HXC0.out (by simp) hg3)
            have HO3 : Hid (LPc.Own w3 (w.heap.size + 1) 30 v3 l) := Lib.hid (by simpa using hown3)
            clear hown3 hg3 HO0

            have hg0 : decide ((k : Int) < 0) = false := decide_eq_false (by omega)
            have hw1 : IntKind.i64.wrap ((xf : Int) + (n1 : Int)) = (xf : Int) + (n1 : Int) := IntWalk.i64_in _ (by omega)
            have hw2 : IntKind.i64.wrap ((fN : Int) + (nd : Int)) = (fN : Int) + (nd : Int) := IntWalk.i64_in _ (by omega)
            have k1 : ∀ g : Gr w3, g.w.cell? ⟨b, off + k * 3 + 1, none⟩ = some (.int .i64 (xf : Int)) := fun g => g.cell (HX3.out.cell HY1.out)
            have k2 : ∀ g : Gr w3, g.w.cell? ⟨b, off + k * 3 + 2, none⟩ = some (.slice p1 n1 c1) := fun g => g.cell (HX3.out.cell HY2.out)

            have hg1 : decide ((xf : Int) + (n1 : Int) < (fN : Int)) = true := decide_eq_true (by have := H1.out; omega)

            refine wp_region_grown (Ext.refl w3) (by kernel_rfl) (by kernel_rfl) ?_
            repeat (go_big_quiet_step (fail))
            refine wpQuiet_nil ?_
            intro gw
            have hxg := gw.h
            clear k1 k2 hg0 hg1 hw1 hw2
            generalize gw.w = w4 at hxg ⊢
            have HX4 := Lib.hid (Ext.trans HX3.out hxg)
            have HO4 := Lib.hid (HO3.out.ext hxg)
            clear hxg

            obtain ⟨f0, f1, f2⟩ := box3 HX4.out
            have HXC := Lib.hid (Ext.trans HX4.out (Ext.alloc w4 (.cells #[.int .i64 m, .int .i64 (fN : Int), .slice pd nd cd] 30)))
            have HOA := Lib.hid (HO4.out.ext (Ext.alloc w4 (.cells #[.int .i64 m, .int .i64 (fN : Int), .slice pd nd cd] 30)))
            have HRK : Hid (LPc.RowK (w4.alloc (.cells #[.int .i64 m, .int .i64 (fN : Int), .slice pd nd cd] 30)) v3.ownBlock (some ⟨w4.heap.size, 0, none⟩) 1 [⟨m, (fN : Int), data⟩]) := Lib.hid (Lay.RowK.lit (Ext.refl _) (pc_keep HT.out HXC.out (fun k hk => (by have := (HOA.out.lt k hk).1; simp; omega))) rfl rfl (by decide))
            go_wp2_with (at_builtin; refine Lay.wpList_append (E := LPc) rfl (.tmp 70) (.tmp 72) 22 rfl (w.heap.size + 1) 30 i0 (.agg #[.int .i64 0, .int .i64 0, .slice none 0 0]) 40 Try.underlying22 hi0 hzi0 hzi1 hzi2 rfl v3 l rfl HOA.out (some ⟨w4.heap.size, 0, none⟩) 1 1 [⟨m, (fN : Int), data⟩] rfl (fun _ => ⟨_, _, rfl⟩) (Nat.le_refl _) HRK.out (by have h := HP.out.1; have := HNB.out; unfold maxLen; simp; omega) (by have h := HP.out.1; have := HNB.out; simp; omega) (by have := HXC.out.size; simp at this; simp; omega) ?_; intro v5 w5 hown5 hg5)
            have HX5 := Lib.hid (HOA.out.below HXC.out (by simp) hg5)
            have HO5 := Lib.hid hown5
            clear hown5 hg5 f0 f1 f2 HXC HOA HRK
            go_wp2
            go_ret
            exact ⟨⟨_, _, rfl, HO5.out.sl, PutS.far HRT.out HLAST.out (by unfold Meet; rw [HXE.out, HBE.out, HXF.out]; simp only; have := H1.out; omega)⟩, Ext.trans HXA.out HX5.out⟩

          · have H0 := Lib.hid h1
            clear h1
            by_cases h2 : fN + nd < xf
            · have H1 := Lib.hid h2
              clear h2

              go_wp2_with (at_builtin; refine Lay.wpList_append (E := LPc) rfl (.tmp 37) (.tmp 38) 22 rfl (w.heap.size + 1) 30 i0 (.agg #[.int .i64 0, .int .i64 0, .slice none 0 0]) 40 Try.underlying22 hi0 hzi0 hzi1 hzi2 rfl (.slice (some ⟨wr.heap.size, 0, none⟩) 0 0) [] rfl HO0.out _ j c l rfl HPL.out (by omega) (HP.out.keep (Ext.trans HXA.out HXC0.out) (fun k hk => by have := (HO0.out.lt k hk).1; omega)) (by have := HNB.out; unfold maxLen; simp; omega) (by have := HNB.out; simp; omega) (by have := HB2.out; simp; omega) ?_; intro v3 w3 hown3 hg3)
              have HX3 := Lib.hid (HO0.out.below HXC0.out (by simp) hg3)
              have HO3 : Hid (LPc.Own w3 (w.heap.size + 1) 30 v3 l) := Lib.hid (by simpa using hown3)
              clear hown3 hg3 HO0

              have hg0 : decide ((k : Int) < 0) = false := decide_eq_false (by omega)
              have hw1 : IntKind.i64.wrap ((xf : Int) + (n1 : Int)) = (xf : Int) + (n1 : Int) := IntWalk.i64_in _ (by omega)
              have hw2 : IntKind.i64.wrap ((fN : Int) + (nd : Int)) = (fN : Int) + (nd : Int) := IntWalk.i64_in _ (by omega)
              have k1 : ∀ g : Gr w3, g.w.cell? ⟨b, off + k * 3 + 1, none⟩ = some (.int .i64 (xf : Int)) := fun g => g.cell (HX3.out.cell HY1.out)
              have k2 : ∀ g : Gr w3, g.w.cell? ⟨b, off + k * 3 + 2, none⟩ = some (.slice p1 n1 c1) := fun g => g.cell (HX3.out.cell HY2.out)

              have hg1 : decide ((xf : Int) + (n1 : Int) < (fN : Int)) = false := decide_eq_false (by have := H0.out; omega)
              have hg2 : decide ((fN : Int) + (nd : Int) < (xf : Int)) = true := decide_eq_true (by have := H1.out; omega)

              refine wp_region_grown (Ext.refl w3) (by kernel_rfl) (by kernel_rfl) ?_
              repeat (go_big_quiet_step (fail))
              refine wpQuiet_nil ?_
              intro gw
              have hxg := gw.h
              clear k1 k2 hg0 hg1 hg2 hw1 hw2
              generalize gw.w = w4 at hxg ⊢
              have HX4 := Lib.hid (Ext.trans HX3.out hxg)
              have HO4 := Lib.hid (HO3.out.ext hxg)
              clear hxg

              obtain ⟨f0, f1, f2⟩ := box3 HX4.out
              have HXC := Lib.hid (Ext.trans HX4.out (Ext.alloc w4 (.cells #[.int .i64 m, .int .i64 (fN : Int), .slice pd nd cd] 30)))
              have HOA := Lib.hid (HO4.out.ext (Ext.alloc w4 (.cells #[.int .i64 m, .int .i64 (fN : Int), .slice pd nd cd] 30)))
              have HRK : Hid (LPc.RowK (w4.alloc (.cells #[.int .i64 m, .int .i64 (fN : Int), .slice pd nd cd] 30)) v3.ownBlock (some ⟨w4.heap.size, 0, none⟩) 1 [⟨m, (fN : Int), data⟩]) := Lib.hid (Lay.RowK.lit (Ext.refl _) (pc_keep HT.out HXC.out (fun k hk => (by have := (HOA.out.lt k hk).1; simp; omega))) rfl rfl (by decide))
              go_wp2_with (at_builtin; refine Lay.wpList_append (E := LPc) rfl (.tmp 70) (.tmp 72) 22 rfl (w.heap.size + 1) 30 i0 (.agg #[.int .i64 0, .int .i64 0, .slice none 0 0]) 40 Try.underlying22 hi0 hzi0 hzi1 hzi2 rfl v3 l rfl HOA.out (some ⟨w4.heap.size, 0, none⟩) 1 1 [⟨m, (fN : Int), data⟩] rfl (fun _ => ⟨_, _, rfl⟩) (Nat.le_refl _) HRK.out (by have h := HP.out.1; have := HNB.out; unfold maxLen; simp; omega) (by have h := HP.out.1; have := HNB.out; simp; omega) (by have := HXC.out.size; simp at this; simp; omega) ?_; intro v5 w5 hown5 hg5)
              have HX5 := Lib.hid (HOA.out.below HXC.out (by simp) hg5)
              have HO5 := Lib.hid hown5
              clear hown5 hg5 f0 f1 f2 HXC HOA HRK
              go_wp2
              go_ret
              exact ⟨⟨_, _, rfl, HO5.out.sl, PutS.far HRT.out HLAST.out (by unfold Meet; rw [HXE.out, HBE.out, HXF.out]; simp only; have := H1.out; omega)⟩, Ext.trans HXA.out HX5.out⟩
            · have H1 := Lib.hid h2
              clear h2
              by_cases hle : xf ≤ fN
              · have HLE := Lib.hid hle
                clear hle

                go_wp2_with (at_builtin; refine Lay.wpList_append (E := LPc) rfl (.tmp 37) (.tmp 38) 22 rfl (w.heap.size + 1) 30 i0 (.agg #[.int .i64 0, .int .i64 0, .slice none 0 0]) 40 Try.underlying22 hi0 hzi0 hzi1 hzi2 rfl (.slice (some ⟨wr.heap.size, 0, none⟩) 0 0) [] rfl HO0.out _ j c l rfl HPL.out (by omega) (HP.out.keep (Ext.trans HXA.out HXC0.out) (fun k hk => by have := (HO0.out.lt k hk).1; omega)) (by have := HNB.out; unfold maxLen; simp; omega) (by have := HNB.out; simp; omega) (by have := HB2.out; simp; omega) ?_; intro v3 w3 hown3 hg3)
                have HX3 := Lib.hid (HO0.out.below HXC0.out (by simp) hg3)
                have HO3 : Hid (LPc.Own w3 (w.heap.size + 1) 30 v3 l) := Lib.hid (by simpa using hown3)
                clear hown3 hg3 HO0

                have hg0 : decide ((k : Int) < 0) = false := decide_eq_false (by omega)
                have hw1 : IntKind.i64.wrap ((xf : Int) + (n1 : Int)) = (xf : Int) + (n1 : Int) := IntWalk.i64_in _ (by omega)
                have hw2 : IntKind.i64.wrap ((fN : Int) + (nd : Int)) = (fN : Int) + (nd : Int) := IntWalk.i64_in _ (by omega)
                have k1 : ∀ g : Gr w3, g.w.cell? ⟨b, off + k * 3 + 1, none⟩ = some (.int .i64 (xf : Int)) := fun g => g.cell (HX3.out.cell HY1.out)
                have k2 : ∀ g : Gr w3, g.w.cell? ⟨b, off + k * 3 + 2, none⟩ = some (.slice p1 n1 c1) := fun g => g.cell (HX3.out.cell HY2.out)

                have hg1 : decide ((xf : Int) + (n1 : Int) < (fN : Int)) = false := decide_eq_false (by have := H0.out; omega)
                have hg2 : decide ((fN : Int) + (nd : Int) < (xf : Int)) = false := decide_eq_false (by have := H1.out; omega)

                refine wp_region_grown (Ext.refl w3) (by kernel_rfl) (by kernel_rfl) ?_
                repeat (go_big_quiet_step (fail))
                refine wpQuiet_nil ?_
                intro gw
                have hxg := gw.h
                clear k1 k2 hg0 hg1 hg2 hw1 hw2
                generalize gw.w = w4 at hxg ⊢
                have HX4 := Lib.hid (Ext.trans HX3.out hxg)
                have HO4 := Lib.hid (HO3.out.ext hxg)
                clear hxg

                have hcmp : ¬ (fN : Int) < (xf : Int) := by have := HLE.out; omega

                obtain ⟨vs, hvs, hak⟩ := HO4.out
                have hvl := hvs.1
                rw [HP.out.1] at hvs
                obtain ⟨g, c9, rfl, hjc⟩ : ∃ g c9, v3 = .slice (some ⟨g, 0, none⟩) j c9 ∧ j ≤ c9 := by
                  rcases HO4.out.form with e | ⟨g, c9, e, h⟩
                  · rw [e] at hvs
                    rcases hvs.2 with ⟨_, h⟩ | ⟨g, cap, cur, e2, _⟩
                    · omega
                    · cases e2
                  · exact ⟨g, c9, by rw [e, HP.out.1], by rw [← HP.out.1]; exact h⟩
                have HVS := Lib.hid hvs
                have HAK := Lib.hid hak
                have HJC := Lib.hid hjc
                have HVL := Lib.hid hvl
                have hgb : w.heap.size + 1 ≤ g ∧ g < w4.heap.size := HO4.out.lt g rfl
                have HGB := Lib.hid hgb
                clear hvs hak hjc hvl hgb
                have y0 := HX4.out.cell HY0.out
                have y1 := HX4.out.cell HY1.out
                have y2 := HX4.out.cell HY2.out

                obtain ⟨D1, hD1⟩ : ∃ D1 : Nat, 0 = D1 := ⟨_, rfl⟩
                obtain ⟨D2, hD2⟩ : ∃ D2 : Nat, fN - xf = D2 := ⟨_, rfl⟩
                have hs1 : (0 : Int) = (D1 : Int) := by omega
                have hs2 : (fN : Int) - (xf : Int) = (D2 : Int) := by have := HLE.out; omega

                have HD1 : Hid (D1 ≤ 4096) := Lib.hid (by omega)
                have HD2 : Hid (D2 ≤ 4096) := Lib.hid (by omega)
                have HBY : Hid (both x ⟨m, (fN : Int), data⟩ = ⟨m, (xf : Int), rlaidL (rlaidL [] D1 x.d) D2 data⟩) := Lib.hid (by
                  have hmn : min x.f (fN : Int) = (xf : Int) := by rw [HXF.out]; have := HLE.out; omega
                  have e1 : (x.f - (xf : Int)).toNat = D1 := by rw [HXF.out]; omega
                  have e2 : ((fN : Int) - (xf : Int)).toNat = D2 := by omega
                  unfold both
                  simp only
                  rw [hmn, e1, e2, HXI.out, rlaid_ne _ _ HXR.out.2.2.1, rlaid_ne _ _ HDE.out])
                have hxB : Ext w4 (w4.alloc (.cells #[.int .i64 x.i, .int .i64 (xf : Int), .slice p1 n1 c1] 30)) := Ext.alloc _ _
                have hc1 := rlaid_v (.slice none 0 0) [] x.d D1 p1 n1 c1 (w4.alloc (.cells #[.int .i64 x.i, .int .i64 (xf : Int), .slice p1 n1 c1] 30)) (Lay.Sl.nil _ _) (HTX.out.row.ext (Ext.trans (Ext.trans HXA.out HX4.out) hxB)) (by simp) (fun _ => by have := HD1.out; omega) (by omega)
                rw [← hs1] at hc1
                have HC1 := Lib.hid hc1
                have HS2 := Lib.hid hs2
                have HXB := Lib.hid hxB
                clear hc1 hs1 hs2 hD1 hD2 hxB
                go_wp2_with fail
                refine HC1.out.mono ?_
                rintro e w5 ⟨⟨v5, rfl, ho5⟩, hx5⟩
                obtain ⟨p5, n5, c5, rfl⟩ := own_form ho5
                have HX45 := Lib.hid (Ext.trans HXB.out hx5)
                have hc2 := rlaid_v (.slice p5 n5 c5) (rlaidL [] D1 x.d) data D2 pd nd cd w5 ho5.sl (HT.out.row.ext (Ext.trans HX4.out HX45.out)) (by have h := rlaid_len [] D1 x.d; have := HD1.out; have := HN1.out; simp at h; omega) (fun _ => by have := HD2.out; omega) (by omega)
                rw [← HS2.out] at hc2
                have HC2 := Lib.hid hc2
                clear hc2 ho5 hx5
                go_wp2_with fail
                refine HC2.out.mono ?_
                rintro e w6 ⟨⟨v6, rfl, ho6⟩, hx6⟩
                obtain ⟨p6, n6, c6, rfl⟩ := own_form ho6
                have HO6 := Lib.hid ho6
                have HX46 := Lib.hid (Ext.trans HX45.out hx6)
                have how6 := own_ext HVS.out HX46.out
                have HOW6 := Lib.hid how6
                have hvl : vs.length = j * 3 := how6.1
                obtain ⟨u0, hu0⟩ : ∃ u0, vs[k * 3]? = some u0 := ⟨_, List.getElem?_eq_getElem (by omega)⟩
                obtain ⟨u1, hu1⟩ : ∃ u1, vs[k * 3 + 1]? = some u1 := ⟨_, List.getElem?_eq_getElem (by omega)⟩
                obtain ⟨u2, hu2⟩ : ∃ u2, vs[k * 3 + 2]? = some u2 := ⟨_, List.getElem?_eq_getElem (by omega)⟩
                have z0 : w6.cell? ⟨g, k * 3, none⟩ = some u0 := by have := how6.cells (g := g) rfl _ _ hu0; rw [addN, Nat.zero_add] at this; exact this
                have z1 : w6.cell? ⟨g, k * 3 + 1, none⟩ = some u1 := by have := how6.cells (g := g) rfl _ _ hu1; rw [addN, Nat.zero_add] at this; exact this
                have z2 : w6.cell? ⟨g, k * 3 + 2, none⟩ = some u2 := by have := how6.cells (g := g) rfl _ _ hu2; rw [addN, Nat.zero_add] at this; exact this
                have r0 : w6.frozen? ⟨g, k * 3, none⟩ = false := how6.frozenAt _
                have r1 : w6.frozen? ⟨g, k * 3 + 1, none⟩ = false := how6.frozenAt _
                have r2 : w6.frozen? ⟨g, k * 3 + 2, none⟩ = false := how6.frozenAt _
                clear ho6 hx6 how6 hu0 hu1 hu2 hvl
                go_wp2
                go_ret
                obtain ⟨hrow3, hg3⟩ := own_put3 HOW6.out (k := k) (by omega) (.int .i64 m) (.int .i64 (xf : Int)) (.slice p6 n6 c6)
                have hkl : k < l.length := (List.getElem?_eq_some_iff.1 HGX.out).1
                have hput := PutS.meet HRT.out HLAST.out (by unfold Meet; rw [HXE.out, HBE.out, HXF.out]; simp only; have := H0.out; have := H1.out; omega)
                rw [set_meet hkl, HBY.out] at hput
                have hby := u8_past HO6.out hg3 (fun r e h => by cases e; have h7 := (HO6.out.lt _ h).1; have h8 := HX45.out.size; have := HGB.out.2; omega)
                have hall := HAK.out _ (Lay.grown_trans (Lay.grown_ext HX46.out _) hg3)
                refine ⟨⟨_, l.set k ⟨m, (xf : Int), rlaidL (rlaidL [] D1 x.d) D2 data⟩, rfl, sl_mk hrow3 (by rw [List.length_set]; exact HP.out.1) (all_put3 (y := ⟨m, (xf : Int), rlaidL (rlaidL [] D1 x.d) D2 data⟩) hall HP.out.1 (by rw [← HP.out.1]; exact hkl) (tri_mk hby.sl HT.out.wa (by have := HTX.out.wb; rwa [HXF.out] at this))), hput⟩, Lay.grown_old (Ext.trans (Ext.trans HXA.out HX4.out) HX46.out) (fun k e => by cases e; have := HGB.out.1; omega) hg3⟩
              · have HLE := Lib.hid hle
                clear hle

                go_wp2_with (at_builtin; refine Lay.wpList_append (E := LPc) rfl (.tmp 37) (.tmp 38) 22 rfl (w.heap.size + 1) 30 i0 (.agg #[.int .i64 0, .int .i64 0, .slice none 0 0]) 40 Try.underlying22 hi0 hzi0 hzi1 hzi2 rfl (.slice (some ⟨wr.heap.size, 0, none⟩) 0 0) [] rfl HO0.out _ j c l rfl HPL.out (by omega) (HP.out.keep (Ext.trans HXA.out HXC0.out) (fun k hk => by have := (HO0.out.lt k hk).1; omega)) (by have := HNB.out; unfold maxLen; simp; omega) (by have := HNB.out; simp; omega) (by have := HB2.out; simp; omega) ?_; intro v3 w3 hown3 hg3)
                have HX3 := Lib.hid (HO0.out.below HXC0.out (by simp) hg3)
                have HO3 : Hid (LPc.Own w3 (w.heap.size + 1) 30 v3 l) := Lib.hid (by simpa using hown3)
                clear hown3 hg3 HO0

                have hg0 : decide ((k : Int) < 0) = false := decide_eq_false (by omega)
                have hw1 : IntKind.i64.wrap ((xf : Int) + (n1 : Int)) = (xf : Int) + (n1 : Int) := IntWalk.i64_in _ (by omega)
                have hw2 : IntKind.i64.wrap ((fN : Int) + (nd : Int)) = (fN : Int) + (nd : Int) := IntWalk.i64_in _ (by omega)
                have k1 : ∀ g : Gr w3, g.w.cell? ⟨b, off + k * 3 + 1, none⟩ = some (.int .i64 (xf : Int)) := fun g => g.cell (HX3.out.cell HY1.out)
                have k2 : ∀ g : Gr w3, g.w.cell? ⟨b, off + k * 3 + 2, none⟩ = some (.slice p1 n1 c1) := fun g => g.cell (HX3.out.cell HY2.out)

                have hg1 : decide ((xf : Int) + (n1 : Int) < (fN : Int)) = false := decide_eq_false (by have := H0.out; omega)
                have hg2 : decide ((fN : Int) + (nd : Int) < (xf : Int)) = false := decide_eq_false (by have := H1.out; omega)

                refine wp_region_grown (Ext.refl w3) (by kernel_rfl) (by kernel_rfl) ?_
                repeat (go_big_quiet_step (fail))
                refine wpQuiet_nil ?_
                intro gw
                have hxg := gw.h
                clear k1 k2 hg0 hg1 hg2 hw1 hw2
                generalize gw.w = w4 at hxg ⊢
                have HX4 := Lib.hid (Ext.trans HX3.out hxg)
                have HO4 := Lib.hid (HO3.out.ext hxg)
                clear hxg

                have hcmp : (fN : Int) < (xf : Int) := by have := HLE.out; omega

                obtain ⟨vs, hvs, hak⟩ := HO4.out
                have hvl := hvs.1
                rw [HP.out.1] at hvs
                obtain ⟨g, c9, rfl, hjc⟩ : ∃ g c9, v3 = .slice (some ⟨g, 0, none⟩) j c9 ∧ j ≤ c9 := by
                  rcases HO4.out.form with e | ⟨g, c9, e, h⟩
                  · rw [e] at hvs
                    rcases hvs.2 with ⟨_, h⟩ | ⟨g, cap, cur, e2, _⟩
                    · omega
                    · cases e2
                  · exact ⟨g, c9, by rw [e, HP.out.1], by rw [← HP.out.1]; exact h⟩
                have HVS := Lib.hid hvs
                have HAK := Lib.hid hak
                have HJC := Lib.hid hjc
                have HVL := Lib.hid hvl
                have hgb : w.heap.size + 1 ≤ g ∧ g < w4.heap.size := HO4.out.lt g rfl
                have HGB := Lib.hid hgb
                clear hvs hak hjc hvl hgb
                have y0 := HX4.out.cell HY0.out
                have y1 := HX4.out.cell HY1.out
                have y2 := HX4.out.cell HY2.out

                obtain ⟨D1, hD1⟩ : ∃ D1 : Nat, xf - fN = D1 := ⟨_, rfl⟩
                obtain ⟨D2, hD2⟩ : ∃ D2 : Nat, 0 = D2 := ⟨_, rfl⟩
                have hs1 : (xf : Int) - (fN : Int) = (D1 : Int) := by have := HLE.out; omega
                have hs2 : (0 : Int) = (D2 : Int) := by omega

                have HD1 : Hid (D1 ≤ 4096) := Lib.hid (by omega)
                have HD2 : Hid (D2 ≤ 4096) := Lib.hid (by omega)
                have HBY : Hid (both x ⟨m, (fN : Int), data⟩ = ⟨m, (fN : Int), rlaidL (rlaidL [] D1 x.d) D2 data⟩) := Lib.hid (by
                  have hmn : min x.f (fN : Int) = (fN : Int) := by rw [HXF.out]; have := HLE.out; omega
                  have e1 : (x.f - (fN : Int)).toNat = D1 := by rw [HXF.out]; omega
                  have e2 : ((fN : Int) - (fN : Int)).toNat = D2 := by omega
                  unfold both
                  simp only
                  rw [hmn, e1, e2, HXI.out, rlaid_ne _ _ HXR.out.2.2.1, rlaid_ne _ _ HDE.out])
                have hxB : Ext w4 (w4.alloc (.cells #[.int .i64 x.i, .int .i64 (xf : Int), .slice p1 n1 c1] 30)) := Ext.alloc _ _
                have hc1 := rlaid_v (.slice none 0 0) [] x.d D1 p1 n1 c1 (w4.alloc (.cells #[.int .i64 x.i, .int .i64 (xf : Int), .slice p1 n1 c1] 30)) (Lay.Sl.nil _ _) (HTX.out.row.ext (Ext.trans (Ext.trans HXA.out HX4.out) hxB)) (by simp) (fun _ => by have := HD1.out; omega) (by omega)
                rw [← hs1] at hc1
                have HC1 := Lib.hid hc1
                have HS2 := Lib.hid hs2
                have HXB := Lib.hid hxB
                clear hc1 hs1 hs2 hD1 hD2 hxB
                go_wp2_with fail
                refine HC1.out.mono ?_
                rintro e w5 ⟨⟨v5, rfl, ho5⟩, hx5⟩
                obtain ⟨p5, n5, c5, rfl⟩ := own_form ho5
                have HX45 := Lib.hid (Ext.trans HXB.out hx5)
                have hc2 := rlaid_v (.slice p5 n5 c5) (rlaidL [] D1 x.d) data D2 pd nd cd w5 ho5.sl (HT.out.row.ext (Ext.trans HX4.out HX45.out)) (by have h := rlaid_len [] D1 x.d; have := HD1.out; have := HN1.out; simp at h; omega) (fun _ => by have := HD2.out; omega) (by omega)
                rw [← HS2.out] at hc2
                have HC2 := Lib.hid hc2
                clear hc2 ho5 hx5
                go_wp2_with fail
                refine HC2.out.mono ?_
                rintro e w6 ⟨⟨v6, rfl, ho6⟩, hx6⟩
                obtain ⟨p6, n6, c6, rfl⟩ := own_form ho6
                have HO6 := Lib.hid ho6
                have HX46 := Lib.hid (Ext.trans HX45.out hx6)
                have how6 := own_ext HVS.out HX46.out
                have HOW6 := Lib.hid how6
                have hvl : vs.length = j * 3 := how6.1
                obtain ⟨u0, hu0⟩ : ∃ u0, vs[k * 3]? = some u0 := ⟨_, List.getElem?_eq_getElem (by omega)⟩
                obtain ⟨u1, hu1⟩ : ∃ u1, vs[k * 3 + 1]? = some u1 := ⟨_, List.getElem?_eq_getElem (by omega)⟩
                obtain ⟨u2, hu2⟩ : ∃ u2, vs[k * 3 + 2]? = some u2 := ⟨_, List.getElem?_eq_getElem (by omega)⟩
                have z0 : w6.cell? ⟨g, k * 3, none⟩ = some u0 := by have := how6.cells (g := g) rfl _ _ hu0; rw [addN, Nat.zero_add] at this; exact this
                have z1 : w6.cell? ⟨g, k * 3 + 1, none⟩ = some u1 := by have := how6.cells (g := g) rfl _ _ hu1; rw [addN, Nat.zero_add] at this; exact this
                have z2 : w6.cell? ⟨g, k * 3 + 2, none⟩ = some u2 := by have := how6.cells (g := g) rfl _ _ hu2; rw [addN, Nat.zero_add] at this; exact this
                have r0 : w6.frozen? ⟨g, k * 3, none⟩ = false := how6.frozenAt _
                have r1 : w6.frozen? ⟨g, k * 3 + 1, none⟩ = false := how6.frozenAt _
                have r2 : w6.frozen? ⟨g, k * 3 + 2, none⟩ = false := how6.frozenAt _
                clear ho6 hx6 how6 hu0 hu1 hu2 hvl
                go_wp2
                go_ret
                obtain ⟨hrow3, hg3⟩ := own_put3 HOW6.out (k := k) (by omega) (.int .i64 m) (.int .i64 (fN : Int)) (.slice p6 n6 c6)
                have hkl : k < l.length := (List.getElem?_eq_some_iff.1 HGX.out).1
                have hput := PutS.meet HRT.out HLAST.out (by unfold Meet; rw [HXE.out, HBE.out, HXF.out]; simp only; have := H0.out; have := H1.out; omega)
                rw [set_meet hkl, HBY.out] at hput
                have hby := u8_past HO6.out hg3 (fun r e h => by cases e; have h7 := (HO6.out.lt _ h).1; have h8 := HX45.out.size; have := HGB.out.2; omega)
                have hall := HAK.out _ (Lay.grown_trans (Lay.grown_ext HX46.out _) hg3)
                refine ⟨⟨_, l.set k ⟨m, (fN : Int), rlaidL (rlaidL [] D1 x.d) D2 data⟩, rfl, sl_mk hrow3 (by rw [List.length_set]; exact HP.out.1) (all_put3 (y := ⟨m, (fN : Int), rlaidL (rlaidL [] D1 x.d) D2 data⟩) hall HP.out.1 (by rw [← HP.out.1]; exact hkl) (tri_mk hby.sl HT.out.wa HT.out.wb)), hput⟩, Lay.grown_old (Ext.trans (Ext.trans HXA.out HX4.out) HX46.out) (fun k e => by cases e; have := HGB.out.1; omega) hg3⟩
end Go.Proofs.Ytcajmgdenhegjaa.Wr
