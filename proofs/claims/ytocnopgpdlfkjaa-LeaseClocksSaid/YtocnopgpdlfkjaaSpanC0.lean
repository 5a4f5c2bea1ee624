/- Spans: bounds, in order. -/
import Derived.Test.YtocnopgpdlfkjaaSpanA0
import Derived.Test.YtocnopgpdlfkjaaSpanN
import Derived.Test.YtocnopgpdlfkjaaPlain
import Derived.Test.YtocnopgpdlfkjaaLaySort
import Derived.Lib.MinMax
import Derived.RegionTactic
namespace Go.Proofs.Ytocnopgpdlfkjaa.Sp
open Go.RowKit Go.Proofs.Ytocnopgpdlfkjaa Go.Sort
set_option linter.unusedVariables false

def LBd : Lay Bd := Lay.pair (Lay.int .i64) (Lay.pair (Lay.int .i64) (Lay.int .i64))
theorem plain_bd : LBd.Plain := (Lay.PlainR.pair (Lay.plainR_int _) (Lay.PlainR.pair (Lay.plainR_int _) (Lay.plainR_int _))).plain
theorem plain_span : LSpan.Plain := (Lay.PlainR.pair (Lay.plainR_int _) (Lay.plainR_int _)).plain
def encB (x : Bd) : List Value := [.int .i64 x.1, .int .i64 x.2.1, .int .i64 x.2.2]
def BdWf (x : Bd) : Prop := (Lit.int .i64 x.1).wf = true ∧ (Lit.int .i64 x.2.1).wf = true ∧ (Lit.int .i64 x.2.2).wf = true
theorem all_bd (w : World) : ∀ {l : List Bd}, (∀ x ∈ l, BdWf x) → LBd.All w (l.flatMap encB) l
  | [], _ => rfl
  | x :: l, h => by
    obtain ⟨h1, h2, h3⟩ := h x (by simp)
    exact ⟨encB x, l.flatMap encB, rfl, ⟨[.int .i64 x.1], [.int .i64 x.2.1, .int .i64 x.2.2], rfl, ⟨rfl, h1⟩, [.int .i64 x.2.1], [.int .i64 x.2.2], rfl, ⟨rfl, h2⟩, ⟨rfl, h3⟩⟩, all_bd w fun y hy => h y (by simp [hy])⟩
theorem bd_all {w : World} : ∀ {l : List Bd} {vs : List Value}, LBd.All w vs l → vs = l.flatMap encB ∧ ∀ x ∈ l, BdWf x
  | [], vs, h => ⟨h, by simp⟩
  | x :: l, vs, h => by
    obtain ⟨cs, vs', rfl, ⟨a, b, rfl, ⟨rfl, h1⟩, c, d, rfl, ⟨rfl, h2⟩, ⟨rfl, h3⟩⟩, h4⟩ := h
    obtain ⟨rfl, h5⟩ := bd_all h4
    refine ⟨rfl, fun y hy => ?_⟩
    rcases List.mem_cons.1 hy with rfl | hy
    · exact ⟨h1, h2, h3⟩
    · exact h5 y hy
theorem bd_wf {x : Bd} (h : 0 ≤ x.1 ∧ x.1 ≤ 1099511627776 ∧ (x.2.1 = 0 ∨ x.2.1 = 1) ∧ (x.2.2 = 1 ∨ x.2.2 = -1)) : BdWf x := by
  obtain ⟨a, b, c⟩ := x
  simp only at h
  refine ⟨?_, ?_, ?_⟩
  · simp [Lit.wf, IntKind.min, IntKind.max, IntKind.signed, IntKind.bits]; omega
  · rcases h.2.2.1 with rfl | rfl
    · exact (by decide : (Lit.int .i64 0).wf = true)
    · exact (by decide : (Lit.int .i64 1).wf = true)
  · rcases h.2.2.2 with rfl | rfl
    · exact (by decide : (Lit.int .i64 1).wf = true)
    · exact (by decide : (Lit.int .i64 (-1)).wf = true)
theorem info_bd : (Try.prog.info? 89).map (fun i => (i.zero, i.size, i.bytes)) = some (some (.agg #[.int .i64 0, .int .i64 0, .int .i64 0]), LBd.size, 24) := by kernel_rfl
theorem info_span : (Try.prog.info? 24).map (fun i => (i.zero, i.size, i.bytes)) = some (some (.agg #[.int .i64 0, .int .i64 0]), LSpan.size, 16) := by kernel_rfl

theorem isnan_any (x : Int) (w : World) : Calls Try.prog 88 #[.int .i64 x] w fun e w' => e = .returned (.bool false) ∧ w = w' := by
  have h : (x != x) = false := by simp
  go_enter Try.func88, Try.ntmps88
  go_wp2
  go_ret
  exact ⟨rfl, rfl⟩
theorem compare_any (x y : Int) (w : World) : Calls Try.prog 82 #[.int .i64 x, .int .i64 y] w fun e w' => e = .returned (.int .i64 (Lib.compareInt x y)) ∧ w = w' := by
  by_cases h1 : x < y
  · have e : Lib.compareInt x y = -1 := by unfold Lib.compareInt; rw [if_pos h1]
    rw [e]
    clear e
    go_enter Try.func82, Try.ntmps82
    go_wp2_with (go_at_call 88; refine (isnan_any _ _).mono ?_; rintro e w' ⟨rfl, rfl⟩)
    go_ret
    exact ⟨rfl, rfl⟩
  · by_cases h2 : y < x
    · have e : Lib.compareInt x y = 1 := by unfold Lib.compareInt; rw [if_neg h1, if_pos h2]
      rw [e]
      clear e
      go_enter Try.func82, Try.ntmps82
      go_wp2_with (go_at_call 88; refine (isnan_any _ _).mono ?_; rintro e w' ⟨rfl, rfl⟩)
      go_ret
      exact ⟨rfl, rfl⟩
    · have e : Lib.compareInt x y = 0 := by unfold Lib.compareInt; rw [if_neg h1, if_neg h2]
      rw [e]
      clear e
      go_enter Try.func82, Try.ntmps82
      go_wp2_with (go_at_call 88; refine (isnan_any _ _).mono ?_; rintro e w' ⟨rfl, rfl⟩)
      go_ret
      exact ⟨rfl, rfl⟩
theorem cmpb_any (x y : Bd) (W : World) : Calls Try.prog 81 #[.agg #[.int .i64 x.1, .int .i64 x.2.1, .int .i64 x.2.2], .agg #[.int .i64 y.1, .int .i64 y.2.1, .int .i64 y.2.2]] W fun e w' => e = .returned (.int .i64 (Lib.compareInt x.1 y.1)) ∧ ∃ q os', w' = grow (W.drewN q) os' := by
  have hcon := fun W' => compare_any x.1 y.1 W'
  generalize Lib.compareInt x.1 y.1 = r at hcon ⊢
  go_enter Try.func81, Try.ntmps81
  go_wp2_with (go_at_call 82; refine (hcon _).mono ?_; rintro e w' ⟨rfl, rfl⟩)
  go_ret
  exact ⟨rfl, 0, _, by rw [alloc_eq_grow, alloc_eq_grow, grow_grow]; rfl⟩
theorem cmpLaysB (blk off size : Nat) (w : World) : CmpLays Try.prog 81 #[] encB 3 (fun x y : Bd => Lib.compareInt x.1 y.1) blk off size w :=
  fun _ _ _ _ x y => cmpb_any x y _
theorem ltB (x y : Bd) : ltOf (fun x y : Bd => Lib.compareInt x.1 y.1) x y = decide (x.1 < y.1) := by
  unfold ltOf Lib.compareInt
  by_cases h1 : x.1 < y.1
  · simp [h1]
  · by_cases h2 : y.1 < x.1 <;> simp [h1, h2]
theorem swoB : SWO (ltOf fun x y : Bd => Lib.compareInt x.1 y.1) where
  irrefl x := by rw [ltB]; simp
  trans x y z h1 h2 := by rw [ltB] at *; simp at *; omega
  ntrans x y z h1 h2 := by rw [ltB] at *; simp at *; omega

theorem isAgg_bd : ∀ w, (isAgg 89).run Try.prog w = .ok true w := Try.isAgg89
theorem sizeOf_bd : ∀ w, (Go.sizeOf 89).run Try.prog w = .ok 3 w := Try.sizeOf89

theorem flat_getB : ∀ (l : List Bd) (i c : Nat), c < 3 → (l.flatMap encB)[i * 3 + c]? = (l[i]?).bind fun x => (encB x)[c]?
  | [], i, c, h => by simp
  | x :: l, 0, c, h => by
    rw [List.flatMap_cons, List.getElem?_append_left (by show 0 * 3 + c < 3; omega), show 0 * 3 + c = c by omega]; rfl
  | x :: l, i + 1, c, h => by
    rw [List.flatMap_cons, List.getElem?_append_right (by show 3 ≤ _; omega), show (i + 1) * 3 + c - (encB x).length = i * 3 + c by show _ - 3 = _; omega, flat_getB l i c h]; rfl
theorem flatK_list (d : Array Bd) : (flatK encB 3 d).toList = d.toList.flatMap encB := by
  apply List.ext_getElem?
  intro t
  obtain ⟨i, c, hc, rfl⟩ : ∃ i c, c < 3 ∧ t = i * 3 + c := ⟨t / 3, t % 3, Nat.mod_lt _ (by omega), by omega⟩
  rw [flat_getB _ _ _ hc]
  by_cases hi : i < d.size
  · have h1 : i * 3 + c < d.size * 3 := by omega
    have h2 := get_flatK encB 3 d (i * 3 + c) h1
    rw [show (i * 3 + c) / 3 = i by omega, show (i * 3 + c) % 3 = c by omega] at h2
    rw [getElem!_pos _ _ (by rw [size_flatK]; exact h1)] at h2
    rw [Array.getElem?_toList, Array.getElem?_eq_getElem (by rw [size_flatK]; exact h1), h2, Array.getElem?_toList, Array.getElem?_eq_getElem hi, getElem!_pos d i hi]
    show _ = (encB d[i])[c]?
    rw [List.getElem?_eq_getElem (show c < (encB d[i]).length from hc), getElem!_pos (encB d[i]) c hc]
    rfl
  · rw [List.getElem?_eq_none (by simp; omega), List.getElem?_eq_none (by simpa using Nat.le_of_not_lt hi)]; rfl

/-- a row of the call's own, sorted -/
theorem own_sorted {w : World} {base g c : Nat} {L L' : List Bd} {n : Nat} {os : Array Obj} (h : LBd.Own w base 89 (.slice (some ⟨g, 0, none⟩) L.length c) L) (hlen : L'.length = L.length) (hwf : ∀ x ∈ L', BdWf x) :
    LBd.Row (sortWorldK encB 3 w g 0 n L'.toArray os) (some ⟨g, 0, none⟩) L.length L' := by
  obtain ⟨vs, h1, h2⟩ := h
  obtain ⟨rfl, hw⟩ := bd_all h2.all
  refine ⟨hlen, ?_, L'.flatMap encB, all_bd _ hwf, fun h0 => ⟨g, 0, rfl, fun j u hu => ?_⟩⟩
  · rcases h1.2 with ⟨hv, _⟩ | ⟨g', cap', cur, hv, _, _, hnc, hcm, _⟩
    · cases hv
    · unfold maxLen at hcm; omega
  · rcases h1.2 with ⟨hv, _⟩ | ⟨g', cap', cur, hv, hb, hg, hnc, hcm, hcs, htk⟩
    · cases hv
    simp only [Value.slice.injEq, Option.some.injEq, Addr.mk.injEq, and_true, true_and] at hv
    obtain ⟨rfl, rfl⟩ := hv
    have hH : HoldsK encB 3 w g 0 L.toArray := fun t ht => by
      rw [size_flatK] at ht
      simp at ht
      have e1 : (flatK encB 3 L.toArray)[t]? = (L.flatMap encB)[t]? := by rw [← Array.getElem?_toList, flatK_list]
      have e2 : t < (flatK encB 3 L.toArray).size := by rw [size_flatK]; simpa using ht
      have e3 : (L.flatMap encB)[t]? = some (id (flatK encB 3 L.toArray)[t]!) := by rw [← e1, Array.getElem?_eq_getElem e2, getElem!_pos (flatK encB 3 L.toArray) t e2]; rfl
      refine ⟨?_, frozen_of_row w g (0 + t) cur _ hg⟩
      have := h1.cells (g := g) rfl t _ e3
      rwa [add0] at this
    have hgs : g < w.heap.size := (Array.getElem?_eq_some_iff.1 hg).1
    have hH2 := holdsK_putRowK encB 3 (Sort.ahead w n) g 0 L.toArray L'.toArray hH (by simpa using hlen)
    have hH3 := holdsK_grow encB 3 _ os g 0 L'.toArray (by unfold putRowK; rw [size_putRow]; exact hgs) hH2
    have e4 : j < (flatK encB 3 L'.toArray).size := by
      have := (List.getElem?_eq_some_iff.1 hu).1
      rw [← Array.length_toList, flatK_list]
      exact this
    have := (hH3 j e4).1
    have e5 : (flatK encB 3 L'.toArray)[j]? = some u := by rw [← Array.getElem?_toList, flatK_list]; exact hu
    have e6 : (flatK encB 3 L'.toArray)[j]! = u := by
      rw [Array.getElem?_eq_getElem e4] at e5
      injection e5 with e5
      rw [getElem!_pos (flatK encB 3 L'.toArray) j e4]; exact e5
    rw [e6] at this
    exact this
/-- all else is as it was -/
theorem ext_sorted {w0 w : World} {g n : Nat} {d : Array Bd} {os : Array Obj} (hx : Ext w0 w) (hg : w0.heap.size ≤ g) : Ext w0 (sortWorldK encB 3 w g 0 n d os) := by
  unfold sortWorldK putRowK
  refine ⟨hx.os, hx.tape, hx.output, ?_, fun k hk => ?_⟩
  · rw [size_grow, size_putRow]; have := hx.size; show _ ≤ w.heap.size + _; omega
  · have h1 : (grow (putRow id (Sort.ahead w n) g 0 (flatK encB 3 d)) os).heap[k]? = w.heap[k]? := by
      have hk2 : k < w.heap.size := Nat.lt_of_lt_of_le hk hx.size
      unfold grow putRow mapBlock
      simp only [Array.getElem?_append]
      rw [if_pos (by simpa [Sort.ahead] using hk2)]
      simp only [Sort.ahead, Array.getElem?_modify]
      rw [if_neg (by omega)]
    rw [h1]; exact hx.block k hk
end Go.Proofs.Ytocnopgpdlfkjaa.Sp
