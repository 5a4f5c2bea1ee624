/- Jobs: the order of two, as the library asks it. -/
import Derived.Test.YtlbpgaoindkgbaaMeA
import Derived.Test.YtlbpgaoindkgbaaLaySort28
import Derived.Deep.RegionWith
namespace Go.Proofs.Ytlbpgaoindkgbaa.Me
open Go.RowKit Go.Proofs.Ytlbpgaoindkgbaa Go.Sort
set_option linter.unusedVariables false

theorem isnan_any (x : Int) (w : World) : Calls Try.prog 39 #[.int .i64 x] w fun e w' => e = .returned (.bool false) ∧ w = w' := by
  have h : (x != x) = false := by simp
  go_enter Try.func39, Try.ntmps39
  go_wp2
  go_ret
  exact ⟨rfl, rfl⟩
theorem compare_any (x y : Int) (w : World) : Calls Try.prog 36 #[.int .i64 x, .int .i64 y] w fun e w' => e = .returned (.int .i64 (Lib.compareInt x y)) ∧ w = w' := by
  by_cases h1 : x < y
  · have e : Lib.compareInt x y = -1 := by unfold Lib.compareInt; rw [if_pos h1]
    rw [e]
    clear e
    go_enter Try.func36, Try.ntmps36
    go_wp2_with (go_at_call 39; refine (isnan_any _ _).mono ?_; rintro e w' ⟨rfl, rfl⟩)
    go_ret
    exact ⟨rfl, rfl⟩
  · by_cases h2 : y < x
    · have e : Lib.compareInt x y = 1 := by unfold Lib.compareInt; rw [if_neg h1, if_pos h2]
      rw [e]
      clear e
      go_enter Try.func36, Try.ntmps36
      go_wp2_with (go_at_call 39; refine (isnan_any _ _).mono ?_; rintro e w' ⟨rfl, rfl⟩)
      go_ret
      exact ⟨rfl, rfl⟩
    · have e : Lib.compareInt x y = 0 := by unfold Lib.compareInt; rw [if_neg h1, if_neg h2]
      rw [e]
      clear e
      go_enter Try.func36, Try.ntmps36
      go_wp2_with (go_at_call 39; refine (isnan_any _ _).mono ?_; rintro e w' ⟨rfl, rfl⟩)
      go_ret
      exact ⟨rfl, rfl⟩
theorem cmpi_any (x y : Int) (w : World) : Calls Try.prog 36 #[.int .i64 x, .int .i64 y] w fun e w' => e = .returned (.int .i64 (cmpI x y)) ∧ w = w' := compare_any x y w
theorem rowI3 (w : World) (a b c : Int) (t : TypeId) : RowI .i64 (w.alloc (.cells #[.int .i64 a, .int .i64 b, .int .i64 c] t)) (some ⟨w.heap.size, 0, none⟩) 3 [a, b, c] :=
  ⟨rfl, by decide, fun _ => ⟨w.heap.size, 0, rfl, fun j hj => by
    match j, hj with
    | 0, _ => exact cell_of_row _ _ 0 _ _ _ (heap_alloc_new w _)
    | 1, _ => exact cell_of_row _ _ 1 _ _ _ (heap_alloc_new w _)
    | 2, _ => exact cell_of_row _ _ 2 _ _ _ (heap_alloc_new w _)⟩⟩
theorem rowI3d (w : World) (a b c : Int) (t : TypeId) : RowI .i64 (w.alloc (.cells #[.int .i64 a, .int .i64 b, .int .i64 c] t)).drew (some ⟨w.heap.size, 0, none⟩) 3 [a, b, c] := rowI3 w a b c t
set_option maxRecDepth 100000 in
set_option maxHeartbeats 4000000 in
theorem cmpj_any (x y : Jb) (w : World) : Calls Try.prog 30 #[.agg #[.int .i64 x.i, .int .i64 x.v, .int .i64 x.f, .int .i64 x.t, .int .i64 x.h, .int .i64 x.l], .agg #[.int .i64 y.i, .int .i64 y.v, .int .i64 y.f, .int .i64 y.t, .int .i64 y.h, .int .i64 y.l]] w fun e w' => e = .returned (.int .i64 (cmpJ x y)) ∧ ∃ q os', w' = grow (w.drewN q) os' := by
  unfold cmpJ
  go_enter Try.func30, Try.ntmps30
  go_wp2
  obtain ⟨w0, hw0⟩ : ∃ w0, ((w.alloc (.cells #[.int .i64 x.i, .int .i64 x.v, .int .i64 x.f, .int .i64 x.t, .int .i64 x.h, .int .i64 x.l] 33)).alloc (.cells #[.int .i64 y.i, .int .i64 y.v, .int .i64 y.f, .int .i64 y.t, .int .i64 y.h, .int .i64 y.l] 33)) = w0 := ⟨_, rfl⟩
  have HSS : Hid (∀ w', Ext w0 w' → (w'.cell? ⟨w.heap.size, 0, none⟩ = some (.int .i64 x.i) ∧ w'.cell? ⟨w.heap.size, 1, none⟩ = some (.int .i64 x.v) ∧ w'.cell? ⟨w.heap.size, 2, none⟩ = some (.int .i64 x.f) ∧ w'.cell? ⟨w.heap.size, 3, none⟩ = some (.int .i64 x.t) ∧ w'.cell? ⟨w.heap.size, 4, none⟩ = some (.int .i64 x.h) ∧ w'.cell? ⟨w.heap.size, 5, none⟩ = some (.int .i64 x.l)) ∧ (w'.cell? ⟨(w.heap.size + 1), 0, none⟩ = some (.int .i64 y.i) ∧ w'.cell? ⟨(w.heap.size + 1), 1, none⟩ = some (.int .i64 y.v) ∧ w'.cell? ⟨(w.heap.size + 1), 2, none⟩ = some (.int .i64 y.f) ∧ w'.cell? ⟨(w.heap.size + 1), 3, none⟩ = some (.int .i64 y.t) ∧ w'.cell? ⟨(w.heap.size + 1), 4, none⟩ = some (.int .i64 y.h) ∧ w'.cell? ⟨(w.heap.size + 1), 5, none⟩ = some (.int .i64 y.l))) := Lib.hid (fun w' h => by
    rw [← hw0] at h
    exact ⟨⟨h.cell ((Ext.alloc _ _).cell (cell_of_row _ _ 0 _ _ _ (heap_alloc_new w _))), h.cell ((Ext.alloc _ _).cell (cell_of_row _ _ 1 _ _ _ (heap_alloc_new w _))), h.cell ((Ext.alloc _ _).cell (cell_of_row _ _ 2 _ _ _ (heap_alloc_new w _))), h.cell ((Ext.alloc _ _).cell (cell_of_row _ _ 3 _ _ _ (heap_alloc_new w _))), h.cell ((Ext.alloc _ _).cell (cell_of_row _ _ 4 _ _ _ (heap_alloc_new w _))), h.cell ((Ext.alloc _ _).cell (cell_of_row _ _ 5 _ _ _ (heap_alloc_new w _)))⟩, ⟨h.cell (by simp), h.cell (by simp), h.cell (by simp), h.cell (by simp), h.cell (by simp), h.cell (by simp)⟩⟩)
  have HW0 := Lib.hid hw0
  rw [hw0]
  clear hw0
  have hxx : Ext w0 w0.drew := Ext.drew (Ext.refl _)
  go_region_held3 (fun w' => (w'.cell? ⟨w.heap.size, 0, none⟩ = some (.int .i64 x.i) ∧ w'.cell? ⟨w.heap.size, 1, none⟩ = some (.int .i64 x.v) ∧ w'.cell? ⟨w.heap.size, 2, none⟩ = some (.int .i64 x.f) ∧ w'.cell? ⟨w.heap.size, 3, none⟩ = some (.int .i64 x.t) ∧ w'.cell? ⟨w.heap.size, 4, none⟩ = some (.int .i64 x.h) ∧ w'.cell? ⟨w.heap.size, 5, none⟩ = some (.int .i64 x.l)) ∧ (w'.cell? ⟨(w.heap.size + 1), 0, none⟩ = some (.int .i64 y.i) ∧ w'.cell? ⟨(w.heap.size + 1), 1, none⟩ = some (.int .i64 y.v) ∧ w'.cell? ⟨(w.heap.size + 1), 2, none⟩ = some (.int .i64 y.f) ∧ w'.cell? ⟨(w.heap.size + 1), 3, none⟩ = some (.int .i64 y.t) ∧ w'.cell? ⟨(w.heap.size + 1), 4, none⟩ = some (.int .i64 y.h) ∧ w'.cell? ⟨(w.heap.size + 1), 5, none⟩ = some (.int .i64 y.l))) ((refine HSS.out _ ?_; first | (with_reducible exact hxx) | (exact Ext.trans hxx (Ext.alloc _ _)))) (first | (go_at_call 36; refine (cmpi_any _ _ _).mono ?_; rintro e w' ⟨rfl, rfl⟩) | (go_at_call 35; refine (or_any _ _ _ [cmpI x.h y.h, cmpI x.i y.i, cmpI x.t y.t] _ (rowI3d w0 _ _ _ _)).mono ?_; rintro e w' ⟨rfl, rfl⟩))
  go_wp2
  go_ret
  exact ⟨rfl, 1, _, by rw [← HW0.out, alloc_eq_grow, alloc_eq_grow, alloc_eq_grow, grow_grow, grow_grow]; rfl⟩
theorem cmpLaysJ (blk off size : Nat) (w : World) : CmpLays Try.prog 30 #[] encJ 6 cmpJ blk off size w :=
  fun _ _ _ _ x y => cmpj_any x y _
theorem ltJ (x y : Jb) : ltOf cmpJ x y = aheadB x y := by
  unfold ltOf
  rw [Bool.eq_iff_iff, decide_eq_true_iff]
  exact cmpJ_lt x y
theorem ahead_irr (x : Jb) : aheadB x x = false := by unfold aheadB; exact decide_eq_false (by omega)
theorem ahead_trans {x y z : Jb} (h : aheadB x y = true) (k : aheadB y z = true) : aheadB x z = true := by
  unfold aheadB at *
  rw [decide_eq_true_iff] at *
  omega
theorem ahead_ntrans {x y z : Jb} (h : aheadB x y = false) (k : aheadB y z = false) : aheadB x z = false := by
  unfold aheadB at *
  rw [decide_eq_false_iff_not] at *
  omega
theorem swoJ : SWO (ltOf cmpJ) where
  irrefl x := by rw [ltJ]; exact ahead_irr x
  trans x y z h1 h2 := by rw [ltJ] at *; exact ahead_trans h1 h2
  ntrans x y z h1 h2 := by rw [ltJ] at *; exact ahead_ntrans h1 h2
theorem isAgg_jb : ∀ w, (isAgg 33).run Try.prog w = .ok true w := Try.isAgg33
theorem sizeOf_jb : ∀ w, (Go.sizeOf 33).run Try.prog w = .ok 6 w := Try.sizeOf33
theorem all_jb (w : World) : ∀ {l : List Jb}, (∀ x ∈ l, JbWf x) → LJb.All w (l.flatMap encJ) l
  | [], _ => rfl
  | x :: l, h => ⟨encJ x, l.flatMap encJ, rfl, ⟨rfl, h x (by simp)⟩, all_jb w fun y hy => h y (by simp [hy])⟩
theorem jb_all {w : World} : ∀ {l : List Jb} {vs : List Value}, LJb.All w vs l → vs = l.flatMap encJ ∧ ∀ x ∈ l, JbWf x
  | [], vs, h => ⟨h, by simp⟩
  | x :: l, vs, h => by
    obtain ⟨cs, vs', rfl, ⟨rfl, h1⟩, h4⟩ := h
    obtain ⟨rfl, h5⟩ := jb_all h4
    refine ⟨rfl, fun y hy => ?_⟩
    rcases List.mem_cons.1 hy with rfl | hy
    · exact h1
    · exact h5 y hy
theorem flat_getJ : ∀ (l : List Jb) (i c : Nat), c < 6 → (l.flatMap encJ)[i * 6 + c]? = (l[i]?).bind fun x => (encJ x)[c]?
  | [], i, c, h => by simp
  | x :: l, 0, c, h => by
    rw [List.flatMap_cons, List.getElem?_append_left (by show 0 * 6 + c < 6; omega), show 0 * 6 + c = c by omega]; rfl
  | x :: l, i + 1, c, h => by
    rw [List.flatMap_cons, List.getElem?_append_right (by show 6 ≤ _; omega), show (i + 1) * 6 + c - (encJ x).length = i * 6 + c by show _ - 6 = _; omega, flat_getJ l i c h]; rfl
theorem flatK_list (d : Array Jb) : (flatK encJ 6 d).toList = d.toList.flatMap encJ := by
  apply List.ext_getElem?
  intro t
  obtain ⟨i, c, hc, rfl⟩ : ∃ i c, c < 6 ∧ t = i * 6 + c := ⟨t / 6, t % 6, Nat.mod_lt _ (by omega), by omega⟩
  rw [flat_getJ _ _ _ hc]
  by_cases hi : i < d.size
  · have h1 : i * 6 + c < d.size * 6 := by omega
    have h2 := get_flatK encJ 6 d (i * 6 + c) h1
    rw [show (i * 6 + c) / 6 = i by omega, show (i * 6 + c) % 6 = c by omega] at h2
    rw [getElem!_pos _ _ (by rw [size_flatK]; exact h1)] at h2
    rw [Array.getElem?_toList, Array.getElem?_eq_getElem (by rw [size_flatK]; exact h1), h2, Array.getElem?_toList, Array.getElem?_eq_getElem hi, getElem!_pos d i hi]
    show _ = (encJ d[i])[c]?
    rw [List.getElem?_eq_getElem (show c < (encJ d[i]).length from hc), getElem!_pos (encJ d[i]) c hc]
    rfl
  · rw [List.getElem?_eq_none (by simp; omega), List.getElem?_eq_none (by simpa using Nat.le_of_not_lt hi)]; rfl

/-- a row of the call's own, sorted -/
theorem own_sorted {w : World} {base g c : Nat} {L L' : List Jb} {n : Nat} {os : Array Obj} (h : LJb.Own w base 33 (.slice (some ⟨g, 0, none⟩) L.length c) L) (hlen : L'.length = L.length) (hwf : ∀ x ∈ L', JbWf x) :
    LJb.Row (sortWorldK encJ 6 w g 0 n L'.toArray os) (some ⟨g, 0, none⟩) L.length L' := by
  obtain ⟨vs, h1, h2⟩ := h
  obtain ⟨rfl, hw⟩ := jb_all h2.all
  refine ⟨hlen, ?_, L'.flatMap encJ, all_jb _ hwf, fun h0 => ⟨g, 0, rfl, fun j u hu => ?_⟩⟩
  · rcases h1.2 with ⟨hv, _⟩ | ⟨g', cap', cur, hv, _, _, hnc, hcm, _⟩
    · cases hv
    · unfold maxLen at hcm; omega
  · rcases h1.2 with ⟨hv, _⟩ | ⟨g', cap', cur, hv, hb, hg, hnc, hcm, hcs, htk⟩
    · cases hv
    simp only [Value.slice.injEq, Option.some.injEq, Addr.mk.injEq, and_true, true_and] at hv
    obtain ⟨rfl, rfl⟩ := hv
    have hH : HoldsK encJ 6 w g 0 L.toArray := fun t ht => by
      rw [size_flatK] at ht
      simp at ht
      have e1 : (flatK encJ 6 L.toArray)[t]? = (L.flatMap encJ)[t]? := by rw [← Array.getElem?_toList, flatK_list]
      have e2 : t < (flatK encJ 6 L.toArray).size := by rw [size_flatK]; simpa using ht
      have e3 : (L.flatMap encJ)[t]? = some (id (flatK encJ 6 L.toArray)[t]!) := by rw [← e1, Array.getElem?_eq_getElem e2, getElem!_pos (flatK encJ 6 L.toArray) t e2]; rfl
      refine ⟨?_, frozen_of_row w g (0 + t) cur _ hg⟩
      have := h1.cells (g := g) rfl t _ e3
      rwa [add0] at this
    have hgs : g < w.heap.size := (Array.getElem?_eq_some_iff.1 hg).1
    have hH2 := holdsK_putRowK encJ 6 (Sort.ahead w n) g 0 L.toArray L'.toArray hH (by simpa using hlen)
    have hH3 := holdsK_grow encJ 6 _ os g 0 L'.toArray (by unfold putRowK; rw [size_putRow]; exact hgs) hH2
    have e4 : j < (flatK encJ 6 L'.toArray).size := by
      have := (List.getElem?_eq_some_iff.1 hu).1
      rw [← Array.length_toList, flatK_list]
      exact this
    have := (hH3 j e4).1
    have e5 : (flatK encJ 6 L'.toArray)[j]? = some u := by rw [← Array.getElem?_toList, flatK_list]; exact hu
    have e6 : (flatK encJ 6 L'.toArray)[j]! = u := by
      rw [Array.getElem?_eq_getElem e4] at e5
      injection e5 with e5
      rw [getElem!_pos (flatK encJ 6 L'.toArray) j e4]; exact e5
    rw [e6] at this
    exact this
/-- all else is as it was -/
theorem ext_sorted {w0 w : World} {g n : Nat} {d : Array Jb} {os : Array Obj} (hx : Ext w0 w) (hg : w0.heap.size ≤ g) : Ext w0 (sortWorldK encJ 6 w g 0 n d os) := by
  unfold sortWorldK putRowK
  refine ⟨hx.os, hx.tape, hx.output, ?_, fun k hk => ?_⟩
  · rw [size_grow, size_putRow]; have := hx.size; show _ ≤ w.heap.size + _; omega
  · have h1 : (grow (putRow id (Sort.ahead w n) g 0 (flatK encJ 6 d)) os).heap[k]? = w.heap[k]? := by
      have hk2 : k < w.heap.size := Nat.lt_of_lt_of_le hk hx.size
      unfold grow putRow mapBlock
      simp only [Array.getElem?_append]
      rw [if_pos (by simpa [Sort.ahead] using hk2)]
      simp only [Sort.ahead, Array.getElem?_modify]
      rw [if_neg (by omega)]
    rw [h1]; exact hx.block k hk
theorem own_holds {w : World} {base g c : Nat} {L : List Jb} (h : LJb.Own w base 33 (.slice (some ⟨g, 0, none⟩) L.length c) L) : HoldsK encJ 6 w g 0 L.toArray := by
  obtain ⟨vs, h1, h2⟩ := h
  obtain ⟨rfl, hw⟩ := jb_all h2.all
  rcases h1.2 with ⟨hv, _⟩ | ⟨g', cap', cur, hv, hb, hg, hnc, hcm, hcs, htk⟩
  · cases hv
  simp only [Value.slice.injEq, Option.some.injEq, Addr.mk.injEq, and_true, true_and] at hv
  obtain ⟨rfl, rfl⟩ := hv
  intro t ht
  rw [size_flatK] at ht
  simp at ht
  have e1 : (flatK encJ 6 L.toArray)[t]? = (L.flatMap encJ)[t]? := by rw [← Array.getElem?_toList, flatK_list]
  have e2 : t < (flatK encJ 6 L.toArray).size := by rw [size_flatK]; simpa using ht
  have e3 : (L.flatMap encJ)[t]? = some (id (flatK encJ 6 L.toArray)[t]!) := by rw [← e1, Array.getElem?_eq_getElem e2, getElem!_pos (flatK encJ 6 L.toArray) t e2]; rfl
  refine ⟨?_, frozen_of_row w g (0 + t) cur _ hg⟩
  have := h1.cells (g := g) rfl t _ e3
  rwa [add0] at this
theorem own_cap {w : World} {base g c : Nat} {L : List Jb} (h : LJb.Own w base 33 (.slice (some ⟨g, 0, none⟩) L.length c) L) : L.length ≤ c ∧ c ≤ 9223372036854775807 := by
  obtain ⟨p, c', e, _, h1, h2, _⟩ := h.opened
  simp only [Value.slice.injEq, true_and] at e
  obtain ⟨_, rfl⟩ := e
  exact ⟨h1, h2⟩

end Go.Proofs.Ytlbpgaoindkgbaa.Me
