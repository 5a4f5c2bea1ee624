/- Written bytes: the reference's Take and Raise. -/
import Derived.Test.YtcajmgdenhegjaaWrTa
namespace Go.Proofs.Ytcajmgdenhegjaa.Wr
open Go.RowKit Go.Proofs.Ytcajmgdenhegjaa
set_option linter.unusedVariables false

theorem set2_box {w : World} {g : Nat} {x y z v : Value} {t : TypeId} (h : w.heap[g]? = some (.cells #[x, y, z] t (0, 0))) : (w.setCell ⟨g, 2, none⟩ v).heap[g]? = some (.cells #[x, y, v] t (0, 0)) := by
  rw [setCell_eq_setRow w g 2 _ _ _ _ h]; exact setRow_heap _ _ _ _ _ _ h
theorem find_len {l : List Sf} {m : Int} {B : Nat} (h : ∀ y ∈ l, y.d.length ≤ B) : (findS l m).d.length ≤ B := by
  unfold findS
  cases hf : l.find? (fun y => decide (y.i = m)) with
  | none => simp
  | some y => exact h y (List.mem_of_find?_eq_some hf)
set_option maxRecDepth 100000 in
set_option maxHeartbeats 4000000 in
theorem rraise_v (p : Option Addr) (n c : Nat) (l : List Sf) (m ep : Int) (w : World) (hl : LSf.Row w p n l) (hs : SortedS l) (hb : n ≤ 1000) (hm : (Lit.int .i64 m).wf = true) (he : (Lit.int .i64 ep).wf = true) :
    Calls Try.prog 25 #[.slice p n c, .int .i64 m, .int .i64 ep] w fun e w' => (∃ v, e = .returned v ∧ LSf.Own w' w.heap.size 51 v (withS l ⟨m, max (findS l m).e ep, (findS l m).d⟩)) ∧ Ext w w' := by
  have HP := Lib.hid hl
  have HS := Lib.hid hs
  have HB := Lib.hid hb
  have HE := Lib.hid he
  have HC := Lib.hid (rfind_v p n c l m w hl hm)
  clear hl hs hb hm he
  go_enter Try.func25, Try.ntmps25
  go_wp2_with fail
  refine HC.out.mono ?_
  rintro e w1 ⟨⟨v, rfl, q, k, d, rfl, ht⟩, hx1⟩
  have hFi : (findS l m).i = m := find_is l m
  obtain ⟨F, hF⟩ : ∃ F, findS l m = F := ⟨_, rfl⟩
  rw [hF] at ht hFi ⊢
  obtain ⟨fi, fe, fd⟩ := F
  simp only at ht hFi ⊢
  subst hFi
  have HT := Lib.hid ht
  have HF := Lib.hid hF
  have HX1 := Lib.hid hx1
  clear ht hF hx1
  by_cases h1 : fe < ep
  · have hxw : Ext w (w1.alloc (.cells #[.int .i64 fi, .int .i64 ep, .slice q k d] 51)) := Ext.trans HX1.out (Ext.alloc _ _)
    have hc := Lib.hid (rwith_v p n c l ⟨fi, ep, fd⟩ q k d _ (HP.out.ext hxw) HS.out HB.out ⟨rfl, HT.out.wa, HE.out, HT.out.row.ext (Ext.alloc _ _), HT.out.nc, HT.out.cm, HT.out.pl⟩)
    have HXW := Lib.hid hxw
    have H1 := Lib.hid h1
    clear hxw
    go_wp2_with fail
    refine hc.out.mono ?_
    rintro e w3 ⟨⟨v, rfl, ho⟩, hx3⟩
    have HO : Hid (LSf.Own w3 w.heap.size 51 v (withS l ⟨fi, max (findS l fi).e ep, (findS l fi).d⟩)) := Lib.hid (by
      rw [HF.out]
      show LSf.Own _ _ _ _ (withS l ⟨fi, max fe ep, fd⟩)
      rw [show max fe ep = ep by have := H1.out; omega]
      exact ho.base HXW.out.size)
    clear ho
    go_wp2
    go_ret
    exact ⟨⟨_, rfl, HO.out⟩, Ext.trans HXW.out hx3⟩
  · have hxw : Ext w (w1.alloc (.cells #[.int .i64 fi, .int .i64 fe, .slice q k d] 51)) := Ext.trans HX1.out (Ext.alloc _ _)
    have hc := Lib.hid (rwith_v p n c l ⟨fi, fe, fd⟩ q k d _ (HP.out.ext hxw) HS.out HB.out (TriC.ext HT.out (Ext.alloc _ _)))
    have HXW := Lib.hid hxw
    have H1 := Lib.hid h1
    clear hxw
    go_wp2_with fail
    refine hc.out.mono ?_
    rintro e w3 ⟨⟨v, rfl, ho⟩, hx3⟩
    have HO : Hid (LSf.Own w3 w.heap.size 51 v (withS l ⟨fi, max (findS l fi).e ep, (findS l fi).d⟩)) := Lib.hid (by
      rw [HF.out]
      show LSf.Own _ _ _ _ (withS l ⟨fi, max fe ep, fd⟩)
      rw [show max fe ep = fe by have := H1.out; omega]
      exact ho.base HXW.out.size)
    clear ho
    go_wp2
    go_ret
    exact ⟨⟨_, rfl, HO.out⟩, Ext.trans HXW.out hx3⟩

set_option maxRecDepth 100000 in
set_option maxHeartbeats 8000000 in
theorem rtake_v (p : Option Addr) (n c : Nat) (l : List Sf) (x : Pc) (p0 : Option Addr) (n0 c0 : Nat) (ep : Int) (w : World) (hl : LSf.Row w p n l) (hs : SortedS l) (hb : n ≤ 1000) (hd : ∀ y ∈ l, y.d.length ≤ 10000) (tx : TriC w [.int .i64 x.i, .int .i64 x.f, .slice p0 n0 c0] x.i x.f x.d p0 n0 c0) (hx : x.Ok) (he : (Lit.int .i64 ep).wf = true) :
    Calls Try.prog 22 #[.slice p n c, .agg #[.int .i64 x.i, .int .i64 x.f, .slice p0 n0 c0], .int .i64 ep] w fun e w' => RetTake w w' (.slice p n c) l x ep e ∧ Ext w w' := by
  have hxA : Ext w (w.alloc (.cells #[.int .i64 x.i, .int .i64 x.f, .slice p0 n0 c0] 30)) := Ext.alloc _ _
  have HP := Lib.hid hl
  have HS := Lib.hid hs
  have HB := Lib.hid hb
  have HE := Lib.hid he
  have HTX := Lib.hid tx
  have HOK := Lib.hid hx
  have HXA := Lib.hid hxA
  have HC := Lib.hid (rfind_v p n c l x.i _ (hl.ext hxA) tx.wa)
  have hFd : (findS l x.i).d.length ≤ 10000 := find_len hd
  obtain ⟨kf, hkf⟩ : ∃ k : Nat, x.f = (k : Int) := ⟨x.f.toNat, by have := hx.1; omega⟩
  have HKF := Lib.hid hkf
  have hkb : kf + n0 ≤ 4096 := by have h1 := hx.2.2; have h2 := tx.row.1; unfold Pc.e at h1; omega
  have HKB := Lib.hid hkb
  rw [hkf]
  clear hl hs hb he tx hx hxA hd hkf hkb
  go_enter Try.func22, Try.ntmps22
  rw [HKF.out] at HC
  go_wp2_with fail
  refine HC.out.mono ?_
  rintro e w1 ⟨⟨v, rfl, q, k, d, rfl, ht⟩, hx1⟩
  obtain ⟨b0, b1, b2⟩ := box3 hx1
  have hFi : (findS l x.i).i = x.i := find_is l x.i
  obtain ⟨F, hF⟩ : ∃ F, findS l x.i = F := ⟨_, rfl⟩
  rw [hF] at ht hFi hFd ⊢
  obtain ⟨fi, fe, fd⟩ := F
  simp only at ht hFi hFd ⊢
  have HT := Lib.hid ht
  have HF := Lib.hid hF
  have HFI := Lib.hid hFi
  have HFD := Lib.hid hFd
  have HXA' := Lib.hid HXA.out
  rw [HKF.out] at HXA'
  have HX1 := Lib.hid (Ext.trans HXA'.out hx1)
  clear ht hF hx1 hFi hFd
  by_cases hlt : ep < fe
  · have HLT := Lib.hid hlt
    go_wp2
    go_ret2
    exact ⟨⟨fun _ => rfl, fun h => by rw [HF.out] at h; exact absurd HLT.out h⟩, Ext.trans HX1.out (Ext.alloc _ _)⟩
  · have HLT := Lib.hid hlt
    have hxB : Ext w1 (w1.alloc (.cells #[.int .i64 fi, .int .i64 ep, .slice q k d] 51)) := Ext.alloc _ _
    have HXB := Lib.hid hxB
    have HXW := Lib.hid (Ext.trans HX1.out hxB)
    have HBX := Lib.hid (heap_alloc_new w1 (.cells #[.int .i64 fi, .int .i64 ep, .slice q k d] 51))
    have HLD := Lib.hid (rlaid_v (.slice q k d) fd x.d kf p0 n0 c0 _ (Lay.Sl.ext (Lay.Sl.mk HT.out.row HT.out.nc HT.out.cm HT.out.pl) hxB) (HTX.out.row.ext HXW.out) (by have := HFD.out; omega) (fun _ => by have := HKB.out; omega) (by have := HKB.out; omega))
    replace b0 := hxB.cell b0
    replace b1 := hxB.cell b1
    replace b2 := hxB.cell b2
    clear hxB
    go_wp2_with fail
    refine HLD.out.mono ?_
    rintro e w3 ⟨⟨v, rfl, hv⟩, hx3⟩
    obtain ⟨p8, n8, c8, rfl⟩ := own_form hv
    have hh := heap_ext HBX.out hx3
    have z2 : w3.frozen? ⟨w1.heap.size, 2, none⟩ = false := frozen_of_row w3 _ _ _ _ hh
    have e2 : w3.cell? ⟨w1.heap.size, 2, none⟩ = some (.slice q k d) := cell_of_row _ _ 2 _ _ _ hh
    have hh2 := set2_box (v := .slice p8 n8 c8) hh
    have d0 : (w3.setCell ⟨w1.heap.size, 2, none⟩ (.slice p8 n8 c8)).cell? ⟨w1.heap.size, 0, none⟩ = some (.int .i64 fi) := cell_of_row _ _ 0 _ _ _ hh2
    have d1 : (w3.setCell ⟨w1.heap.size, 2, none⟩ (.slice p8 n8 c8)).cell? ⟨w1.heap.size, 1, none⟩ = some (.int .i64 ep) := cell_of_row _ _ 1 _ _ _ hh2
    have d2 : (w3.setCell ⟨w1.heap.size, 2, none⟩ (.slice p8 n8 c8)).cell? ⟨w1.heap.size, 2, none⟩ = some (.slice p8 n8 c8) := cell_of_row _ _ 2 _ _ _ hh2
    have hxs : Ext w (w3.setCell ⟨w1.heap.size, 2, none⟩ (.slice p8 n8 c8)) := Below.setCell (Ext.trans HXW.out hx3) (p := ⟨w1.heap.size, 2, none⟩) HX1.out.size _
    have hov := Lay.Own.kept plain_u8 hv (Lay.grown_set w3 w1.heap.size 2 (.slice p8 n8 c8)) (fun e => by have h9 := (hv.lt _ e).1; simp at h9; omega)
    have hc := Lib.hid (rwith_v p n c l ⟨fi, ep, rlaidL fd kf x.d⟩ p8 n8 c8 _ (HP.out.ext hxs) HS.out HB.out (tri_mk hov.sl HT.out.wa HE.out))
    have HXS := Lib.hid hxs
    clear hv hx3 hh hh2 hxs hov b0 b1 b2
    go_wp2_with fail
    refine hc.out.mono ?_
    rintro e w4 ⟨⟨v, rfl, ho⟩, hx4⟩
    have HO := Lib.hid ho
    clear ho
    go_wp2
    go_ret2
    refine ⟨⟨fun h => by rw [HF.out] at h; exact absurd h (Int.not_lt.2 HLT.out), fun _ => ⟨_, rfl, ?_⟩⟩, Ext.trans HXS.out hx4⟩
    rw [HF.out]
    have h9 := HO.out.base HXS.out.size
    rw [rlaid_ne _ _ HOK.out.2.1, HFI.out] at h9
    show LSf.Own _ _ _ _ (withS l ⟨x.i, ep, layP fd x⟩)
    unfold layP
    rw [HKF.out]
    exact h9
end Go.Proofs.Ytcajmgdenhegjaa.Wr
