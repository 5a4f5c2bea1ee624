/- Written bytes: the code's Raise. -/
import Derived.Test.YtcajmgdenhegjaaWrT
namespace Go.Proofs.Ytcajmgdenhegjaa.Wr
open Go.RowKit Go.Proofs.Ytcajmgdenhegjaa
set_option linter.unusedVariables false

theorem three_list {C : List Value} {q : Nat} {x0 x1 x2 : Value} (h0 : C[q]? = some x0) (h1 : C[q + 1]? = some x1) (h2 : C[q + 2]? = some x2) : ∃ A D, C = A ++ x0 :: x1 :: x2 :: D ∧ A.length = q ∧ A = C.take q ∧ D = C.drop (q + 3) := by
  have hl : q + 2 < C.length := (List.getElem?_eq_some_iff.1 h2).1
  refine ⟨C.take q, C.drop (q + 3), ?_, by rw [List.length_take]; omega, rfl, rfl⟩
  have e0 : C.drop q = x0 :: C.drop (q + 1) := by rw [List.drop_eq_getElem_cons (by omega)]; congr 1; exact (List.getElem?_eq_some_iff.1 h0).2
  have e1 : C.drop (q + 1) = x1 :: C.drop (q + 2) := by rw [List.drop_eq_getElem_cons (by omega)]; congr 1; exact (List.getElem?_eq_some_iff.1 h1).2
  have e2 : C.drop (q + 2) = x2 :: C.drop (q + 3) := by rw [List.drop_eq_getElem_cons (by omega)]; congr 1; exact (List.getElem?_eq_some_iff.1 h2).2
  rw [← e2, ← e1, ← e0, List.take_append_drop]
theorem set1_list {C : List Value} {q : Nat} {x0 x1 x2 a : Value} (h0 : C[q]? = some x0) (h1 : C[q + 1]? = some x1) (h2 : C[q + 2]? = some x2) : C.set (q + 1) a = C.take q ++ [x0, a, x2] ++ C.drop (q + 3) := by
  obtain ⟨A, D, e, hA, eA, eD⟩ := three_list h0 h1 h2
  rw [← eA, ← eD, e]
  simp [hA]
theorem set2_list {C : List Value} {q : Nat} {x0 x1 x2 a b : Value} (h0 : C[q]? = some x0) (h1 : C[q + 1]? = some x1) (h2 : C[q + 2]? = some x2) : (C.set (q + 1) a).set (q + 2) b = C.take q ++ [x0, a, b] ++ C.drop (q + 3) := by
  obtain ⟨A, D, e, hA, eA, eD⟩ := three_list h0 h1 h2
  rw [← eA, ← eD, e]
  simp [hA]
/-- a file's cells in the row of the call's own -/
structure SfAt (w : World) (g n c k : Nat) (cur : Array Value) (x : Sf) (q : Option Addr) (m d : Nat) : Prop where
  heap : w.heap[g]? = some (.cells cur 51 (0, 0))
  c0 : cur.toList[k * 3]? = some (.int .i64 x.i)
  c1 : cur.toList[k * 3 + 1]? = some (.int .i64 x.e)
  c2 : cur.toList[k * 3 + 2]? = some (.slice q m d)
  all : ∀ w', w.grownBy w' (some g) → TriC w' [.int .i64 x.i, .int .i64 x.e, .slice q m d] x.i x.e x.d q m d
theorem sf_own {w : World} {base g n c k : Nat} {l : List Sf} {x : Sf} (h : LSf.Own w base 51 (.slice (some ⟨g, 0, none⟩) n c) l) (hn : l.length = n) (hk : l[k]? = some x) : ∃ cur q m d, SfAt w g n c k cur x q m d := by
  obtain ⟨cur, vs, hcur, hcs, htk, hA, hbg, hnc, hcm, hvl⟩ := h.block hn
  obtain ⟨b, off, q, m, d, e, x0, x1, x2, tx⟩ := sf_at (sl_parts h.sl).1 hk
  obtain ⟨rfl, rfl⟩ : g = b ∧ 0 = off := by injection e with e; injection e with h1 h2; exact ⟨h1, h2⟩
  simp only [Nat.zero_add] at x0 x1 x2
  rw [cell_of_row _ _ _ _ _ _ hcur] at x0 x1 x2
  have y0 : cur.toList[k * 3]? = some (.int .i64 x.i) := by simpa using x0
  have y1 : cur.toList[k * 3 + 1]? = some (.int .i64 x.e) := by simpa using x1
  have y2 : cur.toList[k * 3 + 2]? = some (.slice q m d) := by simpa using x2
  have hkn : k < n := by rw [← hn]; exact (List.getElem?_eq_some_iff.1 hk).1
  refine ⟨cur, q, m, d, hcur, y0, y1, y2, fun w' hg => ?_⟩
  obtain ⟨cs, hr, hc⟩ := (hA w' hg).get hk
  obtain ⟨q', m', d', ht⟩ := tri_cells (show LTri.R w' cs (x.i, x.e, x.d) from hr)
  obtain rfl := ht.eq
  have h2 := hc 2 _ rfl
  rw [← htk, List.getElem?_take] at h2
  split at h2
  · have e3 : k * LSf.size + 2 = k * 3 + 2 := rfl
    rw [e3, y2] at h2
    cases h2
    exact ⟨rfl, ht.wa, ht.wb, ht.row, ht.nc, ht.cm, ht.pl⟩
  · cases h2
theorem stor_get {l : List Sf} (hs : SortedS l) (m : Int) : (storL l m)[atS l m]? = some (findS l m) := set_get hs m
theorem stor_set {l : List Sf} (hs : SortedS l) (x : Sf) : (storL l x.i).set (atS l x.i) x = withS l x := (with_set hs x).symm
theorem set_cut1 {α : Type} (l : List α) (k : Nat) (x : α) (h : k < l.length) : l.take k ++ [x] ++ l.drop (k + 1) = l.set k x := by
  rw [List.set_eq_take_append_cons_drop, if_pos h]; simp
theorem sf_over {w W2 : World} {base g n c k : Nat} {cur : Array Value} {l : List Sf} {x y : Sf} {q q' : Option Addr} {m d m' d' : Nat} (hO : LSf.Own w base 51 (.slice (some ⟨g, 0, none⟩) n c) l) (hn : l.length = n) (hk : k < n) (hat : SfAt w g n c k cur x q m d)
    (hy : ∀ w', w.grownBy w' (some g) → TriC w' [.int .i64 y.i, .int .i64 y.e, .slice q' m' d'] y.i y.e y.d q' m' d') (h2 : W2.heap[g]? = some (.cells (cur.toList.take (k * 3) ++ [Value.int .i64 y.i, Value.int .i64 y.e, Value.slice q' m' d'] ++ cur.toList.drop (k * 3 + 3)).toArray 51 (0, 0))) (hg : w.grownBy W2 (some g)) :
    LSf.Own W2 base 51 (.slice (some ⟨g, 0, none⟩) n c) (l.set k y) := by
  have h := hO.over2 hn k 1 [y] [.int .i64 y.i, .int .i64 y.e, .slice q' m' d'] (by omega) rfl (fun w' hg' => Lay.All.single (E := LSf) (show LTri.R w' _ (y.i, y.e, y.d) from (hy w' hg').tri)) hat.heap h2 hg
  rwa [set_cut1 l k y (by omega)] at h
theorem sf_put1 {w : World} {base g n c k : Nat} {cur : Array Value} {l : List Sf} {x : Sf} {q : Option Addr} {m d : Nat} {a : Int} (hO : LSf.Own w base 51 (.slice (some ⟨g, 0, none⟩) n c) l) (hn : l.length = n) (hk : k < n) (hat : SfAt w g n c k cur x q m d) (ha : (Lit.int .i64 a).wf = true) :
    LSf.Own (w.setCell ⟨g, k * 3 + 1, none⟩ (.int .i64 a)) base 51 (.slice (some ⟨g, 0, none⟩) n c) (l.set k ⟨x.i, a, x.d⟩) := by
  refine sf_over (y := ⟨x.i, a, x.d⟩) (q' := q) (m' := m) (d' := d) hO hn hk hat (fun w' hg => (hat.all w' hg).at_ (Ext.refl _) a ha) ?_ (Lay.grown_set _ _ _ _)
  rw [setCell_eq_setRow _ _ _ _ _ _ _ hat.heap, setRow_heap _ _ _ _ _ _ hat.heap]
  congr 2
  apply Array.toList_inj.1
  rw [Array.toList_setIfInBounds, set1_list hat.c0 hat.c1 hat.c2]
set_option maxRecDepth 100000 in
set_option maxHeartbeats 4000000 in
theorem raise_v (u : Value) (l : List Sf) (m ep : Int) (w : World) (hu : LSf.Sl w u l) (hs : SortedS l) (hb : l.length ≤ 1000) (hw : (Lit.int .i64 m).wf = true) (he : (Lit.int .i64 ep).wf = true) :
    Calls Try.prog 24 #[u, .int .i64 m, .int .i64 ep] w fun e w' => (∃ v, e = .returned v ∧ LSf.Own w' w.heap.size 51 v (withS l ⟨m, max (findS l m).e ep, (findS l m).d⟩)) ∧ Ext w w' := by
  have HC := Lib.hid (stored_v u l m w hu hs hb hw)
  have HS := Lib.hid hs
  have HB := Lib.hid hb
  have HW := Lib.hid hw
  have HE := Lib.hid he
  clear hu hs hb hw he
  go_enter Try.func24, Try.ntmps24
  go_wp2_with fail
  refine HC.out.mono ?_
  rintro e w1 ⟨⟨v, rfl, ho⟩, hx1⟩
  have hget := stor_get HS.out m
  have hkl := (List.getElem?_eq_some_iff.1 hget).1
  obtain ⟨g, c, rfl, hbg⟩ := ho.full (by omega)
  obtain ⟨n, hn⟩ : ∃ n, (storL l m).length = n := ⟨_, rfl⟩
  rw [hn] at ho hkl ⊢
  obtain ⟨cur, q, mm, d, hat⟩ := sf_own ho hn hget
  have HAT := Lib.hid hat
  have HO := Lib.hid ho
  have HX1 := Lib.hid hx1
  have HN := Lib.hid hn
  have HGET := Lib.hid hget
  obtain ⟨k, hk⟩ : ∃ k, atS l m = k := ⟨_, rfl⟩
  rw [hk] at HAT hkl HGET ⊢
  have HK := Lib.hid hk
  obtain ⟨F, hF⟩ : ∃ F, findS l m = F := ⟨_, rfl⟩
  rw [hF] at HAT HGET
  have HF := Lib.hid hF
  have hk0 : (0 : Int) ≤ (k : Int) := by omega
  have hk1 : (k : Int) < (n : Int) := by omega
  have f1 : w1.cell? ⟨g, k * 3 + 1, none⟩ = some (.int .i64 F.e) := by rw [cell_of_row _ _ _ _ _ _ HAT.out.heap]; simpa using HAT.out.c1
  have z1 : w1.frozen? ⟨g, k * 3 + 1, none⟩ = false := frozen_of_row _ _ _ _ _ HAT.out.heap
  have hFi : F.i = m := by rw [← hF]; exact find_is l m
  have HFI := Lib.hid hFi
  have HFW := Lib.hid (HAT.out.all w1 (World.grownBy.refl _ _)).wb
  have HFIN : Hid (∀ a, (Lit.int .i64 a).wf = true → LSf.Own (w1.setCell ⟨g, k * 3 + 1, none⟩ (.int .i64 a)) w.heap.size 51 (.slice (some ⟨g, 0, none⟩) n c) (withS l ⟨m, a, F.d⟩)) := Lib.hid fun a ha => by
    have h := sf_put1 HO.out HN.out hkl HAT.out ha
    rw [hFi] at h
    have h2 := stor_set HS.out ⟨m, a, F.d⟩
    simp only [hk] at h2
    rwa [h2] at h
  have HXF : Hid (∀ a, Ext w (w1.setCell ⟨g, k * 3 + 1, none⟩ (.int .i64 a))) := Lib.hid fun a => HO.out.ext_set HX1.out (Nat.le_refl _) _ _
  clear ho hx1 hn hget hk hF hat hFi
  by_cases h1 : F.e < ep
  · have h2 : F.e ≤ ep := by omega
    have H1 := Lib.hid h1
    go_wp2
    all_goals
      go_ret
      exact ⟨⟨_, rfl, by rw [HF.out, show max F.e ep = ep by have := H1.out; omega]; exact HFIN.out _ HE.out⟩, HXF.out _⟩
  · have h2 : ep ≤ F.e := by omega
    have H1 := Lib.hid h1
    go_wp2
    all_goals
      go_ret
      exact ⟨⟨_, rfl, by rw [HF.out, show max F.e ep = F.e by have := H1.out; omega]; exact HFIN.out _ HFW.out⟩, HXF.out _⟩
end Go.Proofs.Ytcajmgdenhegjaa.Wr
