/- Written bytes: two pieces as one. -/
import Derived.Test.YtcajmgdenhegjaaWrJ
import Derived.Test.YtcajmgdenhegjaaGrow
import Derived.Deep.RegionHeld3
namespace Go.Proofs.Ytcajmgdenhegjaa.Wr
open Go.RowKit Go.Proofs.Ytcajmgdenhegjaa
set_option linter.unusedVariables false

/-- a struct of three cells, stored whole, where the region waits for it -/
theorem upon3 {o : Oper} {a : Act} {next : Act → World → Prop} {Q : Exit → Act → World → Prop} {w : World} {g : Nat} {t : TypeId} {x y z : Value} {old : Array Value} (hg : w.heap[g]? = some (.cells old t (0, 0))) (hs : old.size = 3)
    (h1 : ∀ u ∈ [x, y, z], u.oneCell' = true) (h : next (a.put o.dst undef) (w.setRow g #[x, y, z])) :
    o.upon Try.prog a next Q (((storeCells ⟨g, 0, none⟩ [x, y, z]).run Try.prog w).andThen fun _ w' => .ok .skip w') := by
  have h2 := run_storeCells_from (P := Try.prog) g t [x, y, z] 0 old w hg (by rw [hs]; rfl) h1
  rw [h2]
  exact h
theorem rel_ok {a f f' r : Int} {d : List Int} (h : (⟨a, f, d⟩ : Pc).Right) (h0 : 0 ≤ f') (h1 : f' ≤ f) : (⟨a, f', d⟩ : Pc).Ok := by
  obtain ⟨h2, h3, h4, h5⟩ := h
  unfold Pc.e at h5
  exact ⟨h0, h4, by unfold Pc.e; simp only at *; omega⟩
theorem pcs_two {w w1 : World} {a f a' f' : Int} {p p' : Option Addr} {n c n' c' : Nat} {d d' : List Int} (t : TypeId)
    (hx : TriC w1 [.int .i64 a, .int .i64 f, .slice p n c] a f d p n c) (hy : TriC w1 [.int .i64 a', .int .i64 f', .slice p' n' c'] a' f' d' p' n' c') (h : Ext (w.alloc (.cells #[.int .i64 a, .int .i64 f, .slice p n c, .int .i64 a', .int .i64 f', .slice p' n' c'] t)) w1) :
    LPc.Row w1 (some ⟨w.heap.size, 0, none⟩) 2 [⟨a, f, d⟩, ⟨a', f', d'⟩] :=
  Lay.Row.lit h ⟨[.int .i64 a, .int .i64 f, .slice p n c], [.int .i64 a', .int .i64 f', .slice p' n' c'], rfl, hx.tri, [.int .i64 a', .int .i64 f', .slice p' n' c'], [], rfl, hy.tri, rfl⟩ rfl rfl (by omega)
theorem pcs_one {w w1 : World} {a f : Int} {p : Option Addr} {n c : Nat} {d : List Int} (t : TypeId)
    (hx : TriC w1 [.int .i64 a, .int .i64 f, .slice p n c] a f d p n c) (h : Ext (w.alloc (.cells #[.int .i64 a, .int .i64 f, .slice p n c] t)) w1) :
    LPc.Row w1 (some ⟨w.heap.size, 0, none⟩) 1 [⟨a, f, d⟩] :=
  Lay.Row.lit h ⟨[.int .i64 a, .int .i64 f, .slice p n c], [], rfl, hx.tri, rfl⟩ rfl rfl (by omega)
theorem TriC.at_ {w w1 : World} {a f : Int} {p : Option Addr} {n c : Nat} {d : List Int} (h : TriC w [.int .i64 a, .int .i64 f, .slice p n c] a f d p n c) (hx : Ext w w1) (f' : Int) (hf : (Lit.int .i64 f').wf = true) : TriC w1 [.int .i64 a, .int .i64 f', .slice p n c] a f' d p n c :=
  ⟨rfl, h.wa, hf, h.row.ext hx, h.nc, h.cm, h.pl⟩
theorem own_form {α : Type} {E : Lay α} {w : World} {base : Nat} {e : TypeId} {o : Value} {l : List α} (h : E.Own w base e o l) : ∃ p n c, o = .slice p n c := by
  obtain ⟨p, n, c, rfl, _⟩ := h.sl
  exact ⟨_, _, _, rfl⟩
theorem wf_nat {n : Nat} (h : n ≤ 1000000) : (Lit.int .i64 (n : Int)).wf = true := by
  simp [Lit.wf, IntKind.min, IntKind.max, IntKind.signed, IntKind.bits]
  omega
theorem set3 {w : World} {g : Nat} {t : TypeId} {x y z o0 o1 o2 : Value} (h : w.heap[g]? = some (.cells #[o0, o1, o2] t (0, 0))) :
    (((w.setCell ⟨g, 0, none⟩ x).setCell ⟨g, 1, none⟩ y).setCell ⟨g, 2, none⟩ z).heap[g]? = some (.cells #[x, y, z] t (0, 0)) ∧ w.grownBy (((w.setCell ⟨g, 0, none⟩ x).setCell ⟨g, 1, none⟩ y).setCell ⟨g, 2, none⟩ z) (some g) := by
  have e0 : (w.setCell ⟨g, 0, none⟩ x).heap[g]? = some (.cells #[x, o1, o2] t (0, 0)) := by rw [setCell_eq_setRow w g 0 _ _ _ _ h]; exact setRow_heap _ _ _ _ _ _ h
  have e1 : ((w.setCell ⟨g, 0, none⟩ x).setCell ⟨g, 1, none⟩ y).heap[g]? = some (.cells #[x, y, o2] t (0, 0)) := by rw [setCell_eq_setRow _ g 1 _ _ _ _ e0]; exact setRow_heap _ _ _ _ _ _ e0
  have e2 : (((w.setCell ⟨g, 0, none⟩ x).setCell ⟨g, 1, none⟩ y).setCell ⟨g, 2, none⟩ z).heap[g]? = some (.cells #[x, y, z] t (0, 0)) := by rw [setCell_eq_setRow _ g 2 _ _ _ _ e1]; exact setRow_heap _ _ _ _ _ _ e1
  exact ⟨e2, World.grownBy.trans (World.grownBy.trans (Lay.grown_set _ _ _ _) (Lay.grown_set _ _ _ _)) (Lay.grown_set _ _ _ _)⟩
theorem three_box (w : World) (cA cB cC : Array Value) (t : TypeId) : ∃ WA : World, WA.heap.size = w.heap.size + 1 + 1 ∧
    WA.heap[w.heap.size]? = some (.cells cA t (0, 0)) ∧ WA.heap[w.heap.size + 1]? = some (.cells cB t (0, 0)) ∧ Ext w WA ∧ Ext WA ((((w.alloc (.cells cA t)).alloc (.cells cB t)).alloc (.cells cC t)).drew) ∧
    ((((w.alloc (.cells cA t)).alloc (.cells cB t)).alloc (.cells cC t)).drew).heap[w.heap.size + 1 + 1]? = some (.cells cC t (0, 0)) := by
  have e0 := heap_ext (heap_alloc_new w (.cells cA t)) (Ext.alloc _ (.cells cB t))
  have e1 := heap_alloc_new (w.alloc (.cells cA t)) (.cells cB t)
  have e2 := heap_alloc_new ((w.alloc (.cells cA t)).alloc (.cells cB t)) (.cells cC t)
  simp only [World.size_alloc] at e1 e2
  exact ⟨(w.alloc (.cells cA t)).alloc (.cells cB t), by simp, e0, e1, Ext.trans (Ext.alloc _ _) (Ext.alloc _ _), Ext.drew (Ext.alloc _ _), e2⟩

set_option maxRecDepth 100000 in
set_option maxHeartbeats 4000000 in
theorem both_v (x y : Pc) (p1 p2 : Option Addr) (n1 c1 n2 c2 : Nat) (w : World) (tx : TriC w [.int .i64 x.i, .int .i64 x.f, .slice p1 n1 c1] x.i x.f x.d p1 n1 c1) (ty : TriC w [.int .i64 y.i, .int .i64 y.f, .slice p2 n2 c2] y.i y.f y.d p2 n2 c2) (hx : x.Right) (hy : y.Right) :
    Calls Try.prog 39 #[.agg #[.int .i64 x.i, .int .i64 x.f, .slice p1 n1 c1], .agg #[.int .i64 y.i, .int .i64 y.f, .slice p2 n2 c2]] w fun e w' =>
      (∃ v, e = .returned (.agg #[.int .i64 x.i, .int .i64 (min x.f y.f), v]) ∧ (Lay.int .u8).Own w' w.heap.size 5 v (both x y).d) ∧ Ext w w' := by
  obtain ⟨a, f, d⟩ := x
  obtain ⟨b, g, e⟩ := y
  obtain ⟨k, rfl⟩ : ∃ k : Nat, f = (k : Int) := ⟨f.toNat, by have := hx.2.1; simp only at this; omega⟩
  obtain ⟨m, rfl⟩ : ∃ m : Nat, g = (m : Int) := ⟨g.toNat, by have := hy.2.1; simp only at this; omega⟩
  have hk4 : k ≤ 4096 := by have := hx.2.2.2; unfold Pc.e at this; simp only at this; omega
  have hm4 : m ≤ 4096 := by have := hy.2.2.2; unfold Pc.e at this; simp only at this; omega
  have TX := Lib.hid tx
  have TY := Lib.hid ty
  have HX := Lib.hid hx
  have HY := Lib.hid hy
  clear tx ty hx hy
  simp only at *
  by_cases hle : k ≤ m
  · have hle' : (k : Int) ≤ (m : Int) := by omega
    have hmin : min (k : Int) (m : Int) = (k : Int) := by omega
    obtain ⟨D1, hD1⟩ : ∃ D, k - k = D := ⟨_, rfl⟩
    obtain ⟨D2, hD2⟩ : ∃ D, m - k = D := ⟨_, rfl⟩
    have HD1 := Lib.hid hD1
    have HD2 := Lib.hid hD2
    have hw1 : IntKind.i64.wrap (D1 : Int) = (D1 : Int) := by rw [IntKind.wrap_i64]; omega
    have hw2 : IntKind.i64.wrap (D2 : Int) = (D2 : Int) := by rw [IntKind.wrap_i64]; omega
    have hs1 : (k : Int) - (k : Int) = (D1 : Int) := by omega
    have hs2 : (m : Int) - (k : Int) = (D2 : Int) := by omega
    have hb1 : D1 ≤ 4096 := by omega
    have hb2 : D2 ≤ 4096 := by omega
    have HM : Hid ((both ⟨a, (k : Int), d⟩ ⟨b, (m : Int), e⟩).d = layAll [⟨a, (D1 : Int), d⟩, ⟨b, (D2 : Int), e⟩] []) := Lib.hid (by
      unfold both layAll layP
      simp only [List.foldl_cons, List.foldl_nil]
      rw [hmin, hs1, hs2])
    have HOK : Hid (∀ x ∈ [(⟨a, (D1 : Int), d⟩ : Pc), ⟨b, (D2 : Int), e⟩], x.Ok) := Lib.hid (by
      intro x hx
      simp only [List.mem_cons, List.not_mem_nil, or_false] at hx
      rcases hx with rfl | rfl
      · exact rel_ok (r := 0) HX.out (by omega) (by omega)
      · exact rel_ok (r := 0) HY.out (by omega) (by omega))
    rw [hmin]
    clear hD1 hD2
    go_enter Try.func39, Try.ntmps39
    go_wp2
    go_region_with (fail)
    all_goals
      simp only [hs1, hs2, hw1, hw2] at *
      have H3 := three_box w #[.int .i64 a, .int .i64 (D1 : Int), .slice p1 n1 c1] #[.int .i64 b, .int .i64 (D2 : Int), .slice p2 n2 c2] #[.int .i64 0, .int .i64 0, .slice none 0 0] 30
      generalize (((w.alloc (.cells #[.int .i64 a, .int .i64 (D1 : Int), .slice p1 n1 c1] 30)).alloc (.cells #[.int .i64 b, .int .i64 (D2 : Int), .slice p2 n2 c2] 30)).alloc (.cells #[.int .i64 0, .int .i64 0, .slice none 0 0] 30)).drew = W at H3 ⊢
      obtain ⟨WA, hWA, h30, h31, hwa, hxW, h32⟩ := H3
      have b0 : WA.cell? ⟨w.heap.size, 0, none⟩ = some (.int .i64 a) := cell_of_row _ _ 0 _ _ _ h30
      have b1 : WA.cell? ⟨w.heap.size, 1, none⟩ = some (.int .i64 (D1 : Int)) := cell_of_row _ _ 1 _ _ _ h30
      have b2 : WA.cell? ⟨w.heap.size, 2, none⟩ = some (.slice p1 n1 c1) := cell_of_row _ _ 2 _ _ _ h30
      have e0 : WA.cell? ⟨w.heap.size + 1, 0, none⟩ = some (.int .i64 b) := cell_of_row _ _ 0 _ _ _ h31
      have e1 : WA.cell? ⟨w.heap.size + 1, 1, none⟩ = some (.int .i64 (D2 : Int)) := cell_of_row _ _ 1 _ _ _ h31
      have e2 : WA.cell? ⟨w.heap.size + 1, 2, none⟩ = some (.slice p2 n2 c2) := cell_of_row _ _ 2 _ _ _ h31
      have HBS : Hid (∀ w', Ext WA w' → w'.cell? ⟨w.heap.size, 0, none⟩ = some (.int .i64 a) ∧ w'.cell? ⟨w.heap.size, 1, none⟩ = some (.int .i64 (D1 : Int)) ∧ w'.cell? ⟨w.heap.size, 2, none⟩ = some (.slice p1 n1 c1) ∧ w'.cell? ⟨w.heap.size + 1, 0, none⟩ = some (.int .i64 b) ∧ w'.cell? ⟨w.heap.size + 1, 1, none⟩ = some (.int .i64 (D2 : Int)) ∧ w'.cell? ⟨w.heap.size + 1, 2, none⟩ = some (.slice p2 n2 c2)) := Lib.hid fun w' h => ⟨h.cell b0, h.cell b1, h.cell b2, h.cell e0, h.cell e1, h.cell e2⟩
      clear b0 b1 b2 e0 e1 e2
      obtain ⟨b0, b1, b2, e0, e1, e2⟩ := HBS.out _ hxW
      have hxy : Ext W (W.alloc (.cells #[.int .i64 a, .int .i64 (D1 : Int), .slice p1 n1 c1, .int .i64 b, .int .i64 (D2 : Int), .slice p2 n2 c2] 30)).drew := Ext.drew (Ext.alloc _ _)
      have H32 := Lib.hid (heap_ext h32 hxy)
      have hxw : Ext w (W.alloc (.cells #[.int .i64 a, .int .i64 (D1 : Int), .slice p1 n1 c1, .int .i64 b, .int .i64 (D2 : Int), .slice p2 n2 c2] 30)).drew := Ext.trans hwa (Ext.trans hxW hxy)
      have HLD : Hid (Calls Try.prog 30 #[.slice none 0 0, .slice (some ⟨W.heap.size, 0, none⟩) 2 2] (W.alloc (.cells #[.int .i64 a, .int .i64 (D1 : Int), .slice p1 n1 c1, .int .i64 b, .int .i64 (D2 : Int), .slice p2 n2 c2] 30)).drew fun e' w' => (∃ v, e' = .returned v ∧ (Lay.int .u8).Own w' W.heap.size 5 v (layAll [⟨a, (D1 : Int), d⟩, ⟨b, (D2 : Int), e⟩] [])) ∧ Ext (W.alloc (.cells #[.int .i64 a, .int .i64 (D1 : Int), .slice p1 n1 c1, .int .i64 b, .int .i64 (D2 : Int), .slice p2 n2 c2] 30)).drew w') := Lib.hid (by
        have h := laid_v (.slice none 0 0) [] _ _ 2 2 _ (Lay.Sl.nil _ _) (pcs_two 30 (TX.out.at_ hxw _ (wf_nat (by omega))) (TY.out.at_ hxw _ (wf_nat (by omega))) (Ext.drew (Ext.refl _))) HOK.out (by simp)
        exact h.mono fun e' w' ⟨⟨v, h1, h2⟩, h3⟩ => ⟨⟨v, h1, h2.base (Ext.drew (Ext.alloc W (.cells #[.int .i64 a, .int .i64 (D1 : Int), .slice p1 n1 c1, .int .i64 b, .int .i64 (D2 : Int), .slice p2 n2 c2] 30))).size⟩, h3⟩)
      have hgW : w.heap.size + 1 + 1 < W.heap.size := (Array.getElem?_eq_some_iff.1 h32).1
      have hWW := Nat.le_trans hwa.size hxW.size
      replace hxy := Ext.trans hxW hxy
      have hxx : Ext WA W.drew := Ext.drew hxW
      clear h30 h31 h32 hxW hxw
      go_wp2
      go_region_held3 (fun w' => w'.cell? ⟨w.heap.size, 0, none⟩ = some (.int .i64 a) ∧ w'.cell? ⟨w.heap.size, 1, none⟩ = some (.int .i64 (D1 : Int)) ∧ w'.cell? ⟨w.heap.size, 2, none⟩ = some (.slice p1 n1 c1) ∧ w'.cell? ⟨w.heap.size + 1, 0, none⟩ = some (.int .i64 b) ∧ w'.cell? ⟨w.heap.size + 1, 1, none⟩ = some (.int .i64 (D2 : Int)) ∧ w'.cell? ⟨w.heap.size + 1, 2, none⟩ = some (.slice p2 n2 c2)) ((refine HBS.out _ ?_; first | (with_reducible exact hxx) | (with_reducible exact hxy) | (exact Below.setCell (Below.setCell (Below.setCell hxx (p := ⟨w.heap.size + 1 + 1, 0, none⟩) (Nat.le_of_eq hWA) _) (p := ⟨w.heap.size + 1 + 1, 1, none⟩) (Nat.le_of_eq hWA) _) (p := ⟨w.heap.size + 1 + 1, 2, none⟩) (Nat.le_of_eq hWA) _))) (first | (go_at_call 30; refine HLD.out.mono ?_; rintro e' w2 ⟨⟨v, rfl, hv⟩, hx2⟩; obtain ⟨p8, n8, c8, rfl⟩ := own_form hv; have HV := Lib.hid hv; clear hv; have hb8 := heap_ext H32.out hx2; have HB8 := Lib.hid hb8; have z0 : w2.cell? ⟨w.heap.size + 1 + 1, 0, none⟩ = some (.int .i64 0) := cell_of_row _ _ 0 _ _ _ hb8; have z1 : w2.cell? ⟨w.heap.size + 1 + 1, 1, none⟩ = some (.int .i64 0) := cell_of_row _ _ 1 _ _ _ hb8; have z2 : w2.cell? ⟨w.heap.size + 1 + 1, 2, none⟩ = some (.slice none 0 0) := cell_of_row _ _ 2 _ _ _ hb8; have q0 : w2.frozen? ⟨w.heap.size + 1 + 1, 0, none⟩ = false := frozen_of_row w2 _ 0 _ _ hb8; have q1 : w2.frozen? ⟨w.heap.size + 1 + 1, 1, none⟩ = false := frozen_of_row w2 _ 1 _ _ hb8; have q2 : w2.frozen? ⟨w.heap.size + 1 + 1, 2, none⟩ = false := frozen_of_row w2 _ 2 _ _ hb8; clear hb8; replace hxx := Ext.trans hxy hx2; clear hx2) | (refine upon3 HB8.out rfl (by simp [Value.oneCell']) ?_))
      obtain ⟨hs3, hg3⟩ := set3 (x := .int .i64 a) (y := .int .i64 (k : Int)) (z := .slice p8 n8 c8) HB8.out
      have hfin : Ext WA (((w2.setCell ⟨w.heap.size + 1 + 1, 0, none⟩ (.int .i64 a)).setCell ⟨w.heap.size + 1 + 1, 1, none⟩ (.int .i64 (k : Int))).setCell ⟨w.heap.size + 1 + 1, 2, none⟩ (.slice p8 n8 c8)) := Below.setCell (Below.setCell (Below.setCell hxx (p := ⟨w.heap.size + 1 + 1, 0, none⟩) (Nat.le_of_eq hWA) _) (p := ⟨w.heap.size + 1 + 1, 1, none⟩) (Nat.le_of_eq hWA) _) (p := ⟨w.heap.size + 1 + 1, 2, none⟩) (Nat.le_of_eq hWA) _
      have hov := Lay.Own.kept plain_u8 HV.out hg3 (fun e => by have := (HV.out.lt _ e).1; omega)
      generalize (((w2.setCell ⟨w.heap.size + 1 + 1, 0, none⟩ (.int .i64 a)).setCell ⟨w.heap.size + 1 + 1, 1, none⟩ (.int .i64 (k : Int))).setCell ⟨w.heap.size + 1 + 1, 2, none⟩ (.slice p8 n8 c8)) = w9 at hs3 hfin hov ⊢
      have HS3 := Lib.hid hs3
      have HOV := Lib.hid hov
      clear hs3 hov hg3 z0 z1 z2 q0 q1 q2 b0 b1 b2 e0 e1 e2
      go_wp2
      refine bodyPost_ret (v := .agg #[.int .i64 a, .int .i64 (k : Int), .slice p8 n8 c8]) (results_cell_row rfl _ _ (w.heap.size + 1 + 1) 30 #[.int .i64 a, .int .i64 (k : Int), .slice p8 n8 c8] (0, 0) _ rfl HS3.out Try.underlying30 rfl (by kernel_rfl)) rfl ⟨⟨_, rfl, ?_⟩, Ext.trans hwa hfin⟩
      rw [HM.out]
      exact HOV.out.base hWW
  · have hle' : ¬ (k : Int) ≤ (m : Int) := by omega
    have hmin : min (k : Int) (m : Int) = (m : Int) := by omega
    obtain ⟨D1, hD1⟩ : ∃ D, k - m = D := ⟨_, rfl⟩
    obtain ⟨D2, hD2⟩ : ∃ D, m - m = D := ⟨_, rfl⟩
    have HD1 := Lib.hid hD1
    have HD2 := Lib.hid hD2
    have hw1 : IntKind.i64.wrap (D1 : Int) = (D1 : Int) := by rw [IntKind.wrap_i64]; omega
    have hw2 : IntKind.i64.wrap (D2 : Int) = (D2 : Int) := by rw [IntKind.wrap_i64]; omega
    have hs1 : (k : Int) - (m : Int) = (D1 : Int) := by omega
    have hs2 : (m : Int) - (m : Int) = (D2 : Int) := by omega
    have hb1 : D1 ≤ 4096 := by omega
    have hb2 : D2 ≤ 4096 := by omega
    have HM : Hid ((both ⟨a, (k : Int), d⟩ ⟨b, (m : Int), e⟩).d = layAll [⟨a, (D1 : Int), d⟩, ⟨b, (D2 : Int), e⟩] []) := Lib.hid (by
      unfold both layAll layP
      simp only [List.foldl_cons, List.foldl_nil]
      rw [hmin, hs1, hs2])
    have HOK : Hid (∀ x ∈ [(⟨a, (D1 : Int), d⟩ : Pc), ⟨b, (D2 : Int), e⟩], x.Ok) := Lib.hid (by
      intro x hx
      simp only [List.mem_cons, List.not_mem_nil, or_false] at hx
      rcases hx with rfl | rfl
      · exact rel_ok (r := 0) HX.out (by omega) (by omega)
      · exact rel_ok (r := 0) HY.out (by omega) (by omega))
    rw [hmin]
    clear hD1 hD2
    go_enter Try.func39, Try.ntmps39
    go_wp2
    go_region_with (fail)
    all_goals
      simp only [hs1, hs2, hw1, hw2] at *
      have H3 := three_box w #[.int .i64 a, .int .i64 (D1 : Int), .slice p1 n1 c1] #[.int .i64 b, .int .i64 (D2 : Int), .slice p2 n2 c2] #[.int .i64 0, .int .i64 0, .slice none 0 0] 30
      generalize (((w.alloc (.cells #[.int .i64 a, .int .i64 (D1 : Int), .slice p1 n1 c1] 30)).alloc (.cells #[.int .i64 b, .int .i64 (D2 : Int), .slice p2 n2 c2] 30)).alloc (.cells #[.int .i64 0, .int .i64 0, .slice none 0 0] 30)).drew = W at H3 ⊢
      obtain ⟨WA, hWA, h30, h31, hwa, hxW, h32⟩ := H3
      have b0 : WA.cell? ⟨w.heap.size, 0, none⟩ = some (.int .i64 a) := cell_of_row _ _ 0 _ _ _ h30
      have b1 : WA.cell? ⟨w.heap.size, 1, none⟩ = some (.int .i64 (D1 : Int)) := cell_of_row _ _ 1 _ _ _ h30
      have b2 : WA.cell? ⟨w.heap.size, 2, none⟩ = some (.slice p1 n1 c1) := cell_of_row _ _ 2 _ _ _ h30
      have e0 : WA.cell? ⟨w.heap.size + 1, 0, none⟩ = some (.int .i64 b) := cell_of_row _ _ 0 _ _ _ h31
      have e1 : WA.cell? ⟨w.heap.size + 1, 1, none⟩ = some (.int .i64 (D2 : Int)) := cell_of_row _ _ 1 _ _ _ h31
      have e2 : WA.cell? ⟨w.heap.size + 1, 2, none⟩ = some (.slice p2 n2 c2) := cell_of_row _ _ 2 _ _ _ h31
      have HBS : Hid (∀ w', Ext WA w' → w'.cell? ⟨w.heap.size, 0, none⟩ = some (.int .i64 a) ∧ w'.cell? ⟨w.heap.size, 1, none⟩ = some (.int .i64 (D1 : Int)) ∧ w'.cell? ⟨w.heap.size, 2, none⟩ = some (.slice p1 n1 c1) ∧ w'.cell? ⟨w.heap.size + 1, 0, none⟩ = some (.int .i64 b) ∧ w'.cell? ⟨w.heap.size + 1, 1, none⟩ = some (.int .i64 (D2 : Int)) ∧ w'.cell? ⟨w.heap.size + 1, 2, none⟩ = some (.slice p2 n2 c2)) := Lib.hid fun w' h => ⟨h.cell b0, h.cell b1, h.cell b2, h.cell e0, h.cell e1, h.cell e2⟩
      clear b0 b1 b2 e0 e1 e2
      obtain ⟨b0, b1, b2, e0, e1, e2⟩ := HBS.out _ hxW
      have hxy : Ext W (W.alloc (.cells #[.int .i64 a, .int .i64 (D1 : Int), .slice p1 n1 c1, .int .i64 b, .int .i64 (D2 : Int), .slice p2 n2 c2] 30)).drew := Ext.drew (Ext.alloc _ _)
      have H32 := Lib.hid (heap_ext h32 hxy)
      have hxw : Ext w (W.alloc (.cells #[.int .i64 a, .int .i64 (D1 : Int), .slice p1 n1 c1, .int .i64 b, .int .i64 (D2 : Int), .slice p2 n2 c2] 30)).drew := Ext.trans hwa (Ext.trans hxW hxy)
      have HLD : Hid (Calls Try.prog 30 #[.slice none 0 0, .slice (some ⟨W.heap.size, 0, none⟩) 2 2] (W.alloc (.cells #[.int .i64 a, .int .i64 (D1 : Int), .slice p1 n1 c1, .int .i64 b, .int .i64 (D2 : Int), .slice p2 n2 c2] 30)).drew fun e' w' => (∃ v, e' = .returned v ∧ (Lay.int .u8).Own w' W.heap.size 5 v (layAll [⟨a, (D1 : Int), d⟩, ⟨b, (D2 : Int), e⟩] [])) ∧ Ext (W.alloc (.cells #[.int .i64 a, .int .i64 (D1 : Int), .slice p1 n1 c1, .int .i64 b, .int .i64 (D2 : Int), .slice p2 n2 c2] 30)).drew w') := Lib.hid (by
        have h := laid_v (.slice none 0 0) [] _ _ 2 2 _ (Lay.Sl.nil _ _) (pcs_two 30 (TX.out.at_ hxw _ (wf_nat (by omega))) (TY.out.at_ hxw _ (wf_nat (by omega))) (Ext.drew (Ext.refl _))) HOK.out (by simp)
        exact h.mono fun e' w' ⟨⟨v, h1, h2⟩, h3⟩ => ⟨⟨v, h1, h2.base (Ext.drew (Ext.alloc W (.cells #[.int .i64 a, .int .i64 (D1 : Int), .slice p1 n1 c1, .int .i64 b, .int .i64 (D2 : Int), .slice p2 n2 c2] 30))).size⟩, h3⟩)
      have hgW : w.heap.size + 1 + 1 < W.heap.size := (Array.getElem?_eq_some_iff.1 h32).1
      have hWW := Nat.le_trans hwa.size hxW.size
      replace hxy := Ext.trans hxW hxy
      have hxx : Ext WA W.drew := Ext.drew hxW
      clear h30 h31 h32 hxW hxw
      go_wp2
      go_region_held3 (fun w' => w'.cell? ⟨w.heap.size, 0, none⟩ = some (.int .i64 a) ∧ w'.cell? ⟨w.heap.size, 1, none⟩ = some (.int .i64 (D1 : Int)) ∧ w'.cell? ⟨w.heap.size, 2, none⟩ = some (.slice p1 n1 c1) ∧ w'.cell? ⟨w.heap.size + 1, 0, none⟩ = some (.int .i64 b) ∧ w'.cell? ⟨w.heap.size + 1, 1, none⟩ = some (.int .i64 (D2 : Int)) ∧ w'.cell? ⟨w.heap.size + 1, 2, none⟩ = some (.slice p2 n2 c2)) ((refine HBS.out _ ?_; first | (with_reducible exact hxx) | (with_reducible exact hxy) | (exact Below.setCell (Below.setCell (Below.setCell hxx (p := ⟨w.heap.size + 1 + 1, 0, none⟩) (Nat.le_of_eq hWA) _) (p := ⟨w.heap.size + 1 + 1, 1, none⟩) (Nat.le_of_eq hWA) _) (p := ⟨w.heap.size + 1 + 1, 2, none⟩) (Nat.le_of_eq hWA) _))) (first | (go_at_call 30; refine HLD.out.mono ?_; rintro e' w2 ⟨⟨v, rfl, hv⟩, hx2⟩; obtain ⟨p8, n8, c8, rfl⟩ := own_form hv; have HV := Lib.hid hv; clear hv; have hb8 := heap_ext H32.out hx2; have HB8 := Lib.hid hb8; have z0 : w2.cell? ⟨w.heap.size + 1 + 1, 0, none⟩ = some (.int .i64 0) := cell_of_row _ _ 0 _ _ _ hb8; have z1 : w2.cell? ⟨w.heap.size + 1 + 1, 1, none⟩ = some (.int .i64 0) := cell_of_row _ _ 1 _ _ _ hb8; have z2 : w2.cell? ⟨w.heap.size + 1 + 1, 2, none⟩ = some (.slice none 0 0) := cell_of_row _ _ 2 _ _ _ hb8; have q0 : w2.frozen? ⟨w.heap.size + 1 + 1, 0, none⟩ = false := frozen_of_row w2 _ 0 _ _ hb8; have q1 : w2.frozen? ⟨w.heap.size + 1 + 1, 1, none⟩ = false := frozen_of_row w2 _ 1 _ _ hb8; have q2 : w2.frozen? ⟨w.heap.size + 1 + 1, 2, none⟩ = false := frozen_of_row w2 _ 2 _ _ hb8; clear hb8; replace hxx := Ext.trans hxy hx2; clear hx2) | (refine upon3 HB8.out rfl (by simp [Value.oneCell']) ?_))
      obtain ⟨hs3, hg3⟩ := set3 (x := .int .i64 a) (y := .int .i64 (m : Int)) (z := .slice p8 n8 c8) HB8.out
      have hfin : Ext WA (((w2.setCell ⟨w.heap.size + 1 + 1, 0, none⟩ (.int .i64 a)).setCell ⟨w.heap.size + 1 + 1, 1, none⟩ (.int .i64 (m : Int))).setCell ⟨w.heap.size + 1 + 1, 2, none⟩ (.slice p8 n8 c8)) := Below.setCell (Below.setCell (Below.setCell hxx (p := ⟨w.heap.size + 1 + 1, 0, none⟩) (Nat.le_of_eq hWA) _) (p := ⟨w.heap.size + 1 + 1, 1, none⟩) (Nat.le_of_eq hWA) _) (p := ⟨w.heap.size + 1 + 1, 2, none⟩) (Nat.le_of_eq hWA) _
      have hov := Lay.Own.kept plain_u8 HV.out hg3 (fun e => by have := (HV.out.lt _ e).1; omega)
      generalize (((w2.setCell ⟨w.heap.size + 1 + 1, 0, none⟩ (.int .i64 a)).setCell ⟨w.heap.size + 1 + 1, 1, none⟩ (.int .i64 (m : Int))).setCell ⟨w.heap.size + 1 + 1, 2, none⟩ (.slice p8 n8 c8)) = w9 at hs3 hfin hov ⊢
      have HS3 := Lib.hid hs3
      have HOV := Lib.hid hov
      clear hs3 hov hg3 z0 z1 z2 q0 q1 q2 b0 b1 b2 e0 e1 e2
      go_wp2
      refine bodyPost_ret (v := .agg #[.int .i64 a, .int .i64 (m : Int), .slice p8 n8 c8]) (results_cell_row rfl _ _ (w.heap.size + 1 + 1) 30 #[.int .i64 a, .int .i64 (m : Int), .slice p8 n8 c8] (0, 0) _ rfl HS3.out Try.underlying30 rfl (by kernel_rfl)) rfl ⟨⟨_, rfl, ?_⟩, Ext.trans hwa hfin⟩
      rw [HM.out]
      exact HOV.out.base hWW
end Go.Proofs.Ytcajmgdenhegjaa.Wr
