/- Written bytes: the code's Take. -/
import Derived.Test.YtcajmgdenhegjaaWrU
namespace Go.Proofs.Ytcajmgdenhegjaa.Wr
open Go.RowKit Go.Proofs.Ytcajmgdenhegjaa
set_option linter.unusedVariables false

theorem sf_put2 {w W2 : World} {base base8 g n c k : Nat} {cur : Array Value} {l : List Sf} {x : Sf} {q q' : Option Addr} {m d m' d' : Nat} {a : Int} {ds : List Int} (hO : LSf.Own w base 51 (.slice (some ⟨g, 0, none⟩) n c) l) (hn : l.length = n) (hk : k < n) (hat : SfAt w g n c k cur x q m d) (ha : (Lit.int .i64 a).wf = true)
    (hv : (Lay.int .u8).Own w base8 5 (.slice q' m' d') ds) (hb8 : g < base8) (h2 : W2 = (w.setCell ⟨g, k * 3 + 1, none⟩ (.int .i64 a)).setCell ⟨g, k * 3 + 2, none⟩ (.slice q' m' d')) :
    LSf.Own W2 base 51 (.slice (some ⟨g, 0, none⟩) n c) (l.set k ⟨x.i, a, ds⟩) ∧ w.grownBy W2 (some g) := by
  subst h2
  have e1 := setCell_eq_setRow w g (k * 3 + 1) cur 51 (0, 0) (.int .i64 a) hat.heap
  have h1 : (w.setCell ⟨g, k * 3 + 1, none⟩ (.int .i64 a)).heap[g]? = some (.cells (cur.setIfInBounds (k * 3 + 1) (.int .i64 a)) 51 (0, 0)) := by rw [e1]; exact setRow_heap _ _ _ _ _ _ hat.heap
  have e2 := setCell_eq_setRow (w.setCell ⟨g, k * 3 + 1, none⟩ (.int .i64 a)) g (k * 3 + 2) _ 51 (0, 0) (.slice q' m' d') h1
  have h2 : ((w.setCell ⟨g, k * 3 + 1, none⟩ (.int .i64 a)).setCell ⟨g, k * 3 + 2, none⟩ (.slice q' m' d')).heap[g]? = some (.cells ((cur.setIfInBounds (k * 3 + 1) (.int .i64 a)).setIfInBounds (k * 3 + 2) (.slice q' m' d')) 51 (0, 0)) := by rw [e2]; exact setRow_heap _ _ _ _ _ _ h1
  have hg : w.grownBy ((w.setCell ⟨g, k * 3 + 1, none⟩ (.int .i64 a)).setCell ⟨g, k * 3 + 2, none⟩ (.slice q' m' d')) (some g) := World.grownBy.trans (Lay.grown_set _ _ _ _) (Lay.grown_set _ _ _ _)
  refine ⟨sf_over (y := ⟨x.i, a, ds⟩) (q' := q') (m' := m') (d' := d') hO hn hk hat (fun w' hg' => ?_) ?_ hg, hg⟩
  · have h3 := Lay.Own.kept plain_u8 hv hg' (fun e => by have := (hv.lt _ e).1; omega)
    exact tri_mk h3.sl (hat.all w (World.grownBy.refl _ _)).wa ha
  · rw [h2]
    congr 2
    apply Array.toList_inj.1
    rw [Array.toList_setIfInBounds, Array.toList_setIfInBounds, set2_list hat.c0 hat.c1 hat.c2]
theorem SfAt.ext {w w2 : World} {g n c k : Nat} {cur : Array Value} {x : Sf} {q : Option Addr} {m d : Nat} (h : SfAt w g n c k cur x q m d) (hx : Ext w w2) : SfAt w2 g n c k cur x q m d :=
  ⟨heap_ext h.heap hx, h.c0, h.c1, h.c2, fun w' hg => h.all w' (Lay.grown_trans (Lay.grown_ext hx _) hg)⟩
/-- what Take tells -/
def RetTake (w0 w : World) (u : Value) (l : List Sf) (x : Pc) (ep : Int) (e : Ending) : Prop :=
  (ep < (findS l x.i).e → e = .returned (.tuple #[u, .int .i64 240])) ∧
  (¬ ep < (findS l x.i).e → ∃ v, e = .returned (.tuple #[v, .int .i64 0]) ∧ LSf.Own w w0.heap.size 51 v (withS l ⟨x.i, ep, layP (findS l x.i).d x⟩))
set_option maxRecDepth 100000 in
set_option maxHeartbeats 8000000 in
theorem take_v (u : Value) (l : List Sf) (x : Pc) (p : Option Addr) (n0 c0 : Nat) (ep : Int) (w : World) (hu : LSf.Sl w u l) (hs : SortedS l) (hb : l.length ≤ 1000) (hd : ∀ y ∈ l, y.d.length ≤ 10000) (tx : TriC w [.int .i64 x.i, .int .i64 x.f, .slice p n0 c0] x.i x.f x.d p n0 c0) (hx : x.Ok) (he : (Lit.int .i64 ep).wf = true) :
    Calls Try.prog 21 #[u, .agg #[.int .i64 x.i, .int .i64 x.f, .slice p n0 c0], .int .i64 ep] w fun e w' => RetTake w w' u l x ep e ∧ Ext w w' := by
  have hxA : Ext w (w.alloc (.cells #[.int .i64 x.i, .int .i64 x.f, .slice p n0 c0] 30)) := Ext.alloc _ _
  have HC := Lib.hid (stored_v u l x.i _ (hu.ext hxA) hs hb tx.wa)
  have HS := Lib.hid hs
  have HB := Lib.hid hb
  have HE := Lib.hid he
  have HD := Lib.hid hd
  have HT := Lib.hid tx
  have HOK := Lib.hid hx
  have HXA := Lib.hid hxA
  clear hu hs hb he hd tx hx
  go_enter Try.func21, Try.ntmps21
  go_wp2_with fail
  refine HC.out.mono ?_
  rintro e w1 ⟨⟨v, rfl, ho⟩, hx1⟩
  obtain ⟨b0, b1, b2⟩ := pc_box hx1
  have hget := stor_get HS.out x.i
  have hkl := (List.getElem?_eq_some_iff.1 hget).1
  obtain ⟨g, c, rfl, hbg⟩ := ho.full (by omega)
  obtain ⟨n, hn⟩ : ∃ n, (storL l x.i).length = n := ⟨_, rfl⟩
  rw [hn] at ho hkl ⊢
  obtain ⟨cur, q, mm, d, hat⟩ := sf_own ho hn hget
  have HO := Lib.hid ho
  have HX1 := Lib.hid hx1
  have HN := Lib.hid hn
  have hFi : (findS l x.i).i = x.i := find_is l x.i
  have hFd : (findS l x.i).d.length ≤ 10000 := by
    unfold findS
    cases h : l.find? (fun y => decide (y.i = x.i)) with
    | none => simp
    | some y => exact HD.out y (List.mem_of_find?_eq_some h)
  obtain ⟨k, hk⟩ : ∃ k, atS l x.i = k := ⟨_, rfl⟩
  have HK := Lib.hid hk
  rw [hk] at hat hkl ⊢
  obtain ⟨F, hF⟩ : ∃ F, findS l x.i = F := ⟨_, rfl⟩
  rw [hF] at hat hFi hFd
  have HAT := Lib.hid hat
  have HF := Lib.hid hF
  have HFI := Lib.hid hFi
  have HFD := Lib.hid hFd
  have hk0 : (0 : Int) ≤ (k : Int) := by omega
  have hk1 : (k : Int) < (n : Int) := by omega
  have f1 : w1.cell? ⟨g, k * 3 + 1, none⟩ = some (.int .i64 F.e) := by rw [cell_of_row _ _ _ _ _ _ HAT.out.heap]; simpa using HAT.out.c1
  have f2 : w1.cell? ⟨g, k * 3 + 2, none⟩ = some (.slice q mm d) := by rw [cell_of_row _ _ _ _ _ _ HAT.out.heap]; simpa using HAT.out.c2
  clear ho hx1 hn hget hk hF hFi hFd hxA
  by_cases hlt : ep < F.e
  · have HLT := Lib.hid hlt
    clear hat
    go_wp2
    go_ret2
    exact ⟨⟨fun _ => rfl, fun h => by rw [HF.out] at h; exact absurd HLT.out h⟩, Ext.trans HXA.out HX1.out⟩
  · have HLT := Lib.hid hlt
    have HFDT := Lib.hid (hat.all w1 (World.grownBy.refl _ _))
    clear hat
    have hxy : Ext w1 (w1.alloc (.cells #[.int .i64 x.i, .int .i64 x.f, .slice p n0 c0] 30)).drew := Ext.drew (Ext.alloc _ _)
    have hxw : Ext w (w1.alloc (.cells #[.int .i64 x.i, .int .i64 x.f, .slice p n0 c0] 30)).drew := Ext.trans HXA.out (Ext.trans HX1.out hxy)
    have HXY := Lib.hid hxy
    have HLD : Hid (Calls Try.prog 30 #[.slice q mm d, .slice (some ⟨w1.heap.size, 0, none⟩) 1 1] (w1.alloc (.cells #[.int .i64 x.i, .int .i64 x.f, .slice p n0 c0] 30)).drew fun e' w' => (∃ v, e' = .returned v ∧ (Lay.int .u8).Own w' w1.heap.size 5 v (layAll [x] F.d)) ∧ Ext (w1.alloc (.cells #[.int .i64 x.i, .int .i64 x.f, .slice p n0 c0] 30)).drew w') := Lib.hid (by
      have hsl : (Lay.int .u8).Sl w1 (.slice q mm d) F.d := Lay.Sl.mk HFDT.out.row HFDT.out.nc HFDT.out.cm HFDT.out.pl
      have h := laid_v (.slice q mm d) F.d [x] (some ⟨w1.heap.size, 0, none⟩) 1 1 _ (hsl.ext hxy) (pcs_one 30 (TriC.ext HT.out hxw) (Ext.drew (Ext.refl _))) (by intro y hy; simp at hy; subst hy; exact HOK.out) HFD.out
      exact h.mono fun e' w' ⟨⟨v, h1, h2⟩, h3⟩ => ⟨⟨v, h1, h2.base hxy.size⟩, h3⟩)
    have f2a := hxy.cell f2
    have f2b := (Ext.alloc w1 (.cells #[.int .i64 x.i, .int .i64 x.f, .slice p n0 c0] 30)).cell f2
    have z1a : w1.frozen? ⟨g, k * 3 + 1, none⟩ = false := frozen_of_row w1 _ _ _ _ HAT.out.heap
    clear hxy hxw
    go_wp2
    go_region_with (go_at_call 30; refine HLD.out.mono ?_; rintro e' w2 ⟨⟨v, rfl, hv⟩, hx2⟩; obtain ⟨p8, n8, c8, rfl⟩ := own_form hv; have HV := Lib.hid hv; have HX2 := Lib.hid (Ext.trans HXY.out hx2); have g1 := HX2.out.cell f1; have g2 := HX2.out.cell f2; have hh := heap_ext HAT.out.heap HX2.out; have z1 : w2.frozen? ⟨g, k * 3 + 1, none⟩ = false := frozen_of_row w2 _ _ _ _ hh; have z2 : w2.frozen? ⟨g, k * 3 + 2, none⟩ = false := frozen_of_row w2 _ _ _ _ hh; clear hv hx2 hh)
    all_goals
      have hgw : g < w1.heap.size := (HO.out.lt g rfl).2
      have hgb : w.heap.size ≤ g := Nat.le_trans HXA.out.size (HO.out.lt g rfl).1
      obtain ⟨hfin, _⟩ := sf_put2 (HO.out.ext HX2.out) HN.out hkl (HAT.out.ext HX2.out) HE.out HV.out hgw rfl
      have hext : Ext w ((w2.setCell ⟨g, k * 3 + 1, none⟩ (.int .i64 ep)).setCell ⟨g, k * 3 + 2, none⟩ (.slice p8 n8 c8)) := Below.setCell (Below.setCell (Ext.trans HXA.out (Ext.trans HX1.out HX2.out)) (p := ⟨g, k * 3 + 1, none⟩) hgb _) (p := ⟨g, k * 3 + 2, none⟩) hgb _
      have hset := stor_set HS.out ⟨x.i, ep, layP F.d x⟩
      simp only [HK.out] at hset
      rw [HFI.out, show layAll [x] F.d = layP F.d x from rfl, hset] at hfin
      generalize (w2.setCell ⟨g, k * 3 + 1, none⟩ (.int .i64 ep)).setCell ⟨g, k * 3 + 2, none⟩ (.slice p8 n8 c8) = w9 at hfin hext ⊢
      have HFIN := Lib.hid hfin
      have HEXT := Lib.hid hext
      clear hfin hext hset g1 g2 z1 z2 f1 f2 f2a f2b z1a b0 b1 b2
      go_wp2
      go_ret2
      exact ⟨⟨fun h => by rw [HF.out] at h; exact absurd h (by have := HLT.out; omega), fun _ => ⟨_, rfl, by rw [HF.out]; exact HFIN.out.base HXA.out.size⟩⟩, HEXT.out⟩
end Go.Proofs.Ytcajmgdenhegjaa.Wr
