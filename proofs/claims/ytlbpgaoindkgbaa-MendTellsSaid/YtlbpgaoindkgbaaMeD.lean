/- Jobs: what is picked, each target once. -/
import Derived.Test.YtlbpgaoindkgbaaMeC
import Derived.Test.YtlbpgaoindkgbaaMeN
import Derived.Shelf.SlSortCmp.NoneTotal
namespace Go.Proofs.Ytlbpgaoindkgbaa.Me
open Go.RowKit Go.Proofs.Ytlbpgaoindkgbaa Go.Sort
set_option linter.unusedVariables false

theorem info_job : (Try.prog.info? 33).map (fun i => (i.zero, i.size, i.bytes)) = some (some (.agg #[.int .i64 0, .int .i64 0, .int .i64 0, .int .i64 0, .int .i64 0, .int .i64 0]), LJb.size, 48) := by kernel_rfl
def RetJ (m : List Jb) (w : World) (e : Ending) (w' : World) : Prop := (∃ v, e = .returned v ∧ LJb.Sl w' v m) ∧ Ext w w'
theorem grown_of {a b c : World} {row : Option Nat} (h : Ext a b) (k : b.grownBy c row) : a.grownBy c row := Lay.grown_trans (Lay.grown_ext h row) k
theorem row_wf {w : World} {p : Option Addr} {n : Nat} {l : List Jb} (h : LJb.Row w p n l) : ∀ x ∈ l, JbWf x := fun x hx => by
  obtain ⟨j, hj, rfl⟩ := List.getElem_of_mem hx
  obtain ⟨b, off, rfl, hw, _⟩ := jb_at h (List.getElem?_eq_getElem hj)
  exact hw
/-- the filter's loop -/
def PickR (w : World) (l : List Jb) (n : Nat) (v i : Value) (wr : World) : Prop := ∃ (k : Nat) (S : List Jb), k ≤ n ∧ i = .int .i64 k ∧ Hid (pickL (l.take k) = S) ∧ SeenR wr w.heap.size k S ∧ LJb.Own wr (w.heap.size + 1) 33 v S ∧ Ext w wr
set_option maxRecDepth 100000 in
set_option maxHeartbeats 4000000 in
theorem order_v (p : Option Addr) (n c : Nat) (l : List Jb) (w : World) (hl : LJb.Row w p n l) (hn : n ≤ 1000) : Calls Try.prog 17 #[.slice p n c] w (RetJ (ordL l) w) := by
  obtain ⟨i0, hi0, hzi0, hzi1, hzi2⟩ := info_parts info_job
  have HP := Lib.hid hl
  have hn63 := hl.2.1
  clear hl
  have hmm := @run_makeMap Try.prog
  go_enter Try.func17, Try.ntmps17
  go_wp2
  clear hmm
  go_loopw [4, 6, 10] (fun v _ ix wr => PickR w l n v ix wr) (fun _ _ ix _ => n - (intOf ix).toNat)
  case atStart => exact ⟨0, [], by omega, rfl, Lib.hid rfl, seen_made w, Lay.Own.nil _ _ _ _, Ext.alloc _ _⟩
  case round =>
    obtain ⟨k, S, hk, rfl, hS, hseen, hown, hx⟩ := hrel
    have HO := Lib.hid hown
    have HSE := Lib.hid hseen
    have HX := Lib.hid hx
    have HSL : Hid (S.length ≤ k) := Lib.hid (by rw [← hS.out]; exact pick_len l k)
    clear hown hseen hx
    by_cases hlt : k < n
    · obtain ⟨x, gx⟩ := get_of l k (by rw [HP.out.1]; exact hlt)
      obtain ⟨b, off, rfl, hw, c0, c1, c2, c3, c4, c5⟩ := jb_at (HP.out.ext HX.out) gx
      have HSN : Hid (pickL (l.take (k + 1)) = pickS S x) := Lib.hid (by rw [pick_snoc l k x gx, hS.out])
      have HW := Lib.hid hw
      have hlt' : (k : Int) < (n : Int) := by omega
      have hlt0 : (0 : Int) ≤ (k : Int) := by omega
      have HH : Hid (w.heap.size < wr.heap.size) := Lib.hid HSE.out.lt
      clear gx hw
      go_wp2_with fail
      refine (may_any x _).mono ?_
      rintro e w1 ⟨rfl, hx1⟩
      have b0 : w1.cell? ⟨wr.heap.size, 0, none⟩ = some (.int .i64 x.i) := hx1.cell (cell_of_row _ _ 0 _ _ _ (heap_alloc_new wr _))
      have b1 : w1.cell? ⟨wr.heap.size, 1, none⟩ = some (.int .i64 x.v) := hx1.cell (cell_of_row _ _ 1 _ _ _ (heap_alloc_new wr _))
      have b2 : w1.cell? ⟨wr.heap.size, 2, none⟩ = some (.int .i64 x.f) := hx1.cell (cell_of_row _ _ 2 _ _ _ (heap_alloc_new wr _))
      have b3 : w1.cell? ⟨wr.heap.size, 3, none⟩ = some (.int .i64 x.t) := hx1.cell (cell_of_row _ _ 3 _ _ _ (heap_alloc_new wr _))
      have b4 : w1.cell? ⟨wr.heap.size, 4, none⟩ = some (.int .i64 x.h) := hx1.cell (cell_of_row _ _ 4 _ _ _ (heap_alloc_new wr _))
      have b5 : w1.cell? ⟨wr.heap.size, 5, none⟩ = some (.int .i64 x.l) := hx1.cell (cell_of_row _ _ 5 _ _ _ (heap_alloc_new wr _))
      have HX1 := Lib.hid (Ext.trans (Ext.alloc _ _) hx1)
      clear hx1 c0 c1 c2 c3 c4 c5
      obtain ⟨g, hg⟩ : ∃ g, mayB x = g := ⟨_, rfl⟩
      have HG := Lib.hid hg
      rw [hg]
      clear hg
      cases g
      · have HSM : Hid (pickS S x = S) := Lib.hid (by unfold pickS; rw [if_neg (by rw [HG.out]; exact Bool.false_ne_true)])
        go_wp2
        go_roundw
        case rel => exact ⟨k + 1, S, by omega, by go_num, Lib.hid (by rw [HSN.out, HSM.out]), (HSE.out.ext HX1.out).mono (by omega), HO.out.ext HX1.out, Ext.trans HX.out HX1.out⟩
        case measure => simp [intOf]; omega
      · go_wp2_with fail
        refine (target_any x _).mono ?_
        rintro e w2 ⟨rfl, hx2⟩
        replace b0 := hx2.cell b0
        replace b1 := hx2.cell b1
        replace b2 := hx2.cell b2
        replace b3 := hx2.cell b3
        replace b4 := hx2.cell b4
        replace b5 := hx2.cell b5
        have HX2 := Lib.hid (Ext.trans HX1.out hx2)
        have HSE2 := Lib.hid (HSE.out.ext HX2.out)
        clear hx2
        obtain ⟨q, hq⟩ : ∃ q, (decide (∃ y ∈ S, y.i = x.i ∧ y.t = x.t)) = q := ⟨_, rfl⟩
        have HQ := Lib.hid hq
        clear hq
        cases q
        · have HSM : Hid (pickS S x = S ++ [x]) := Lib.hid (by unfold pickS; rw [if_pos HG.out, if_neg (by unfold seenB; rw [HQ.out]; exact Bool.false_ne_true)])
          go_wp2_with (at_lookup; refine wpList_look (by rfl) (.tmp 17) (.tmp 19) rfl w.heap.size k S rfl HSE2.out x.i x.t HW.out.1 HW.out.2.2.2.1 rfl ?_; rw [HQ.out])
          refine (target_any x _).mono ?_
          rintro e w3 ⟨rfl, hx3⟩
          replace b0 := hx3.cell b0
          replace b1 := hx3.cell b1
          replace b2 := hx3.cell b2
          replace b3 := hx3.cell b3
          replace b4 := hx3.cell b4
          replace b5 := hx3.cell b5
          have HX3 := Lib.hid (Ext.trans HX2.out hx3)
          have HSE3 := Lib.hid (HSE2.out.ext hx3)
          have HO3 := Lib.hid (HO.out.ext HX3.out)
          clear hx3
          go_wp2_with (first | (at_mapUpdate; refine wpList_mark rfl (.tmp 23) (.tmp 25) _ rfl w.heap.size k S rfl HSE3.out (by unfold maxLen; omega) x HW.out rfl rfl ?_; intro w4 hse hgr; (have HSE4 := Lib.hid hse); (have HO4 := Lib.hid (HO3.out.kept plain_jb hgr (fun h => by have := (HO3.out.lt _ h).1; omega))); (have HX4 := Lib.hid (Lay.grown_old (Ext.trans HX.out HX3.out) (fun k hk => by injection hk with hk; subst hk; exact Nat.le_refl _) hgr)); (replace b0 : w4.cell? ⟨wr.heap.size, 0, none⟩ = some (.int .i64 x.i) := by have hb := hgr.block wr.heap.size (World.block_lt_of_cell? _ _ b0) (fun h => by injection h with h; have := HH.out; omega); have := b0; unfold World.cell? at this ⊢; rw [hb]; exact this); (replace b1 : w4.cell? ⟨wr.heap.size, 1, none⟩ = some (.int .i64 x.v) := by have hb := hgr.block wr.heap.size (World.block_lt_of_cell? _ _ b1) (fun h => by injection h with h; have := HH.out; omega); have := b1; unfold World.cell? at this ⊢; rw [hb]; exact this); (replace b2 : w4.cell? ⟨wr.heap.size, 2, none⟩ = some (.int .i64 x.f) := by have hb := hgr.block wr.heap.size (World.block_lt_of_cell? _ _ b2) (fun h => by injection h with h; have := HH.out; omega); have := b2; unfold World.cell? at this ⊢; rw [hb]; exact this); (replace b3 : w4.cell? ⟨wr.heap.size, 3, none⟩ = some (.int .i64 x.t) := by have hb := hgr.block wr.heap.size (World.block_lt_of_cell? _ _ b3) (fun h => by injection h with h; have := HH.out; omega); have := b3; unfold World.cell? at this ⊢; rw [hb]; exact this); (replace b4 : w4.cell? ⟨wr.heap.size, 4, none⟩ = some (.int .i64 x.h) := by have hb := hgr.block wr.heap.size (World.block_lt_of_cell? _ _ b4) (fun h => by injection h with h; have := HH.out; omega); have := b4; unfold World.cell? at this ⊢; rw [hb]; exact this); (replace b5 : w4.cell? ⟨wr.heap.size, 5, none⟩ = some (.int .i64 x.l) := by have hb := hgr.block wr.heap.size (World.block_lt_of_cell? _ _ b5) (fun h => by injection h with h; have := HH.out; omega); have := b5; unfold World.cell? at this ⊢; rw [hb]; exact this); clear hse hgr) | (at_builtin; refine Lay.wpList_append (E := LJb) rfl (.tmp 26) (.tmp 28) 22 rfl (w.heap.size + 1) 33 i0 (.agg #[.int .i64 0, .int .i64 0, .int .i64 0, .int .i64 0, .int .i64 0, .int .i64 0]) 48 Try.underlying22 hi0 hzi0 hzi1 hzi2 rfl _ (S) rfl (HO4.out.ext (Ext.alloc _ _)) (some ⟨w4.heap.size, 0, none⟩) 1 1 ([x]) rfl (fun _ => ⟨_, _, rfl⟩) (Nat.le_refl _) (plain_jb.lit (Ext.refl _) (Lay.All.single ⟨rfl, HW.out⟩) rfl rfl (by decide)) (by have := HSL.out; unfold maxLen; omega) (by have := HSL.out; omega) (by have := HX4.out.size; have := HSE4.out.lt; simp; omega) ?_; intro v2 w5 hown2 hg2))
          have HSE5 := Lib.hid (HSE4.out.kept (grown_of (Ext.alloc _ _) hg2) (fun h => by have := (HO4.out.lt _ h.symm).1; omega))
          have X5 := Lib.hid (HO4.out.below HX4.out (Nat.le_succ _) (grown_of (Ext.alloc _ _) hg2))
          have HO5 := Lib.hid hown2
          clear hg2 hown2
          go_roundw
          case rel => exact ⟨k + 1, S ++ [x], by omega, by go_num, Lib.hid (by rw [HSN.out, HSM.out]), HSE5.out, HO5.out, X5.out⟩
          case measure => simp [intOf]; omega
        · have HSM : Hid (pickS S x = S) := Lib.hid (by unfold pickS; rw [if_pos HG.out, if_pos (by unfold seenB; exact HQ.out)])
          go_wp2_with (at_lookup; refine wpList_look (by rfl) (.tmp 17) (.tmp 19) rfl w.heap.size k S rfl HSE2.out x.i x.t HW.out.1 HW.out.2.2.2.1 rfl ?_; rw [HQ.out])
          go_roundw
          case rel => exact ⟨k + 1, S, by omega, by go_num, Lib.hid (by rw [HSN.out, HSM.out]), (HSE2.out).mono (by omega), HO.out.ext HX2.out, Ext.trans HX.out HX2.out⟩
          case measure => simp [intOf]; omega
    · obtain rfl : k = n := by omega
      have HLL : Hid (S = pickL l) := Lib.hid (by rw [← hS.out, List.take_of_length_le (by rw [HP.out.1]; omega)])
      have HWF : Hid (∀ x ∈ ordL l, JbWf x) := Lib.hid (ord_wf (row_wf HP.out))
      by_cases h0 : 0 < S.length
      · obtain ⟨g, cp, rfl, hg⟩ := HO.out.full h0
        have HG := Lib.hid hg
        have HH : Hid (HoldsK encJ 6 wr g 0 S.toArray) := Lib.hid (own_holds HO.out)
        have hcon := AnyQ.slices_SortFunc Try.sortBd 6 isAgg_jb sizeOf_jb encJ (fun _ => rfl) (fun x v hv => by simp [encJ] at hv; rcases hv with rfl | rfl | rfl | rfl | rfl | rfl <;> rfl) cmpJ swoJ 30 #[] g 0 cp S.toArray wr (enters_of Try.func30 (by kernel_rfl) rfl) (cmpLaysJ g 0 S.toArray.size wr) HH.out (HO.out.lt g rfl).2 (by
          have := HSL.out
          simp; omega)
        change Calls Try.prog 31 _ _ _ at hcon
        have HC := Lib.hid hcon
        clear hcon hg h0
        go_wp2_with fail
        refine HC.out.mono ?_
        rintro e w2 ⟨rfl, d', nn, os, hp, hs, rfl⟩
        have HB : Hid (d'.toList = ordL l) := Lib.hid (sorted_is HLL.out hp hs)
        have HS2 := Lib.hid (own_sorted (L' := d'.toList) (n := nn) (os := os) HO.out (by have := hp.1; simpa using this) fun x hx => HWF.out x (by rw [← HB.out]; exact hx))
        have HX2 := Lib.hid (ext_sorted (n := nn) (d := d') (os := os) HX.out (Nat.le_of_succ_le HG.out))
        obtain ⟨W, hW⟩ : ∃ W, sortWorldK encJ 6 wr g 0 nn d' os = W := ⟨_, rfl⟩
        rw [hW] at HX2 ⊢
        have HS3 : Hid (LJb.Row W (some ⟨g, 0, none⟩) S.length d'.toList) := Lib.hid (by have := HS2.out; rw [← hW]; first | done | simpa using this)
        obtain ⟨hle, hcm⟩ := own_cap HO.out
        rw [HB.out] at HS3
        clear hp hs HS2 hW HC HH
        go_wp2
        go_ret
        exact ⟨⟨_, rfl, Lay.Sl.mk HS3.out hle hcm (fun _ => ⟨_, _, rfl⟩)⟩, HX2.out⟩
      · obtain rfl : S = [] := List.eq_nil_of_length_eq_zero (by omega)
        have HB : Hid (ordL l = []) := Lib.hid (by unfold ordL; rw [← HLL.out]; rfl)
        obtain ⟨q, cp, rfl, hr, hle, hcm, hpl⟩ := HO.out.opened
        have hcon := AnyF.slices_SortFunc_none Try.sortBd q cp (.func (.func 30) #[] #[]) wr
        change Calls Try.prog 31 _ _ _ at hcon
        have HC := Lib.hid hcon
        clear hcon hr hpl h0
        go_wp2_with fail
        refine HC.out.mono ?_
        rintro e w2 ⟨rfl, rfl⟩
        go_wp2
        go_ret
        exact ⟨⟨_, rfl, by rw [HB.out]; exact HO.out.sl⟩, HX.out⟩
end Go.Proofs.Ytlbpgaoindkgbaa.Me
