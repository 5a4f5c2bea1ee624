/- Leases: a question; a time; what is had, as a set of places; is one right (the reference); do two clash (the reference). -/
import Derived.Test.YtocnopgpdlfkjaaLeE
import Derived.Test.YtocnopgpdlfkjaaInts
namespace Go.Proofs.Ytocnopgpdlfkjaa.Ls
open Go.RowKit Go.Proofs.Ytocnopgpdlfkjaa Go.Sort
set_option linter.unusedVariables false

set_option maxRecDepth 100000 in
set_option maxHeartbeats 4000000 in
theorem askq_any (c k f t : Int) (w : World) : Calls Try.prog 30 #[.int .i64 c, .int .i64 k, .int .i64 f, .int .i64 t] w fun e w' => e = .returned (.agg #[.int .i64 c, .int .i64 5, .int .i64 k, .int .i64 f, .int .i64 t, .int .i64 0, .int .i64 0]) ∧ Ext w w' := by
  go_enter Try.func30, Try.ntmps30
  go_wp2
  refine bodyPost_ret (v := .agg #[.int .i64 c, .int .i64 5, .int .i64 k, .int .i64 f, .int .i64 t, .int .i64 0, .int .i64 0]) (results_cell_row rfl _ _ w.heap.size 26 #[.int .i64 c, .int .i64 5, .int .i64 k, .int .i64 f, .int .i64 t, .int .i64 0, .int .i64 0] (0, 0) _ rfl (heap_alloc_new _ _) Try.underlying26 rfl (by kernel_rfl)) rfl ⟨rfl, ?_⟩
  exact Ext.alloc _ _

def tmq (n : Int) : Int := if n < 0 ∨ 1099511627776 < n then 0 else n
theorem tmq_bd (n : Int) : 0 ≤ tmq n ∧ tmq n ≤ 1099511627776 := by unfold tmq; split <;> omega
theorem time_any (n : Int) (w : World) : Calls Try.prog 12 #[.int .i64 n] w fun e w' => e = .returned (.int .i64 (tmq n)) ∧ w = w' := by
  by_cases h1 : n < 0
  · have d1 : decide (n < 0) = true := decide_eq_true h1
    have e : tmq n = 0 := if_pos (.inl h1)
    rw [e]
    clear e
    go_enter Try.func12, Try.ntmps12
    go_wp2
    go_ret
    exact ⟨rfl, rfl⟩
  · have d1 : decide (n < 0) = false := decide_eq_false h1
    by_cases h2 : 1099511627776 < n
    · have d2 : decide (1099511627776 < n) = true := decide_eq_true h2
      have e : tmq n = 0 := if_pos (.inr h2)
      rw [e]
      clear e
      go_enter Try.func12, Try.ntmps12
      go_wp2
      go_ret
      exact ⟨rfl, rfl⟩
    · have d2 : decide (1099511627776 < n) = false := decide_eq_false h2
      have e : tmq n = n := if_neg (fun h => h.elim h1 h2)
      rw [e]
      clear e
      go_enter Try.func12, Try.ntmps12
      go_wp2
      go_ret
      exact ⟨rfl, rfl⟩

/-! ### what is had, as places -/
def hadP (l : List Le) (c i k f t : Int) : Prop := (0 ≤ f ∧ f < t ∧ t ≤ 1099511627776) ∧ (k = 1 ∨ k = 2) ∧ ∀ x, f ≤ x → x < t → ∃ y ∈ l, (y.c = c ∧ y.i = i ∧ (y.k = k ∨ y.k = 2)) ∧ y.f ≤ x ∧ x < y.t
theorem ord_nil {l : List Sp.Span} (h : Sp.Ordered l) (hn : ∀ t, Sp.hasB l t = false) : l = [] := by
  cases l with
  | nil => rfl
  | cons s l =>
    exfalso
    have h1 := Sp.Ord.mem h s (by simp)
    have h2 := hn s.1
    have h3 : Sp.hasB (s :: l) s.1 = true := Sp.hasB_iff.2 ⟨by omega, by omega, s, by simp, by omega, h1.2.1⟩
    rw [h3] at h2
    cases h2
theorem had_iff {l : List Le} {c i k f t : Int} (h : rightSpB f t = true → kindB k = true → Hid (Sp.IsOf Sp.fCut [(f, t)] (hadL l c i k) (Sp.ofL Sp.fCut [(f, t)] (hadL l c i k)))) : hasLB l c i k f t = true ↔ hadP l c i k f t := by
  unfold hasLB hadP
  rw [Bool.and_eq_true, Bool.and_eq_true, decide_eq_true_iff]
  constructor
  · rintro ⟨⟨h1, h2⟩, h3⟩
    have h4 := (h h1 h2).out
    have r1 : 0 ≤ f ∧ f < t ∧ t ≤ 1099511627776 := of_decide_eq_true h1
    refine ⟨r1, of_decide_eq_true h2, fun x hx1 hx2 => ?_⟩
    have h5 := h4.set x
    rw [h3] at h5
    have e1 : Sp.hasB [] x = false := by simp [Sp.hasB]
    have e2 : Sp.hasB [(f, t)] x = true := Sp.hasB_iff.2 ⟨by omega, by omega, _, List.mem_singleton.2 rfl, hx1, hx2⟩
    rw [e1, e2] at h5
    have h6 : Sp.hasB (hadL l c i k) x = true := by
      cases hh : Sp.hasB (hadL l c i k) x with
      | true => rfl
      | false => rw [hh] at h5; simp [Sp.fCut] at h5
    obtain ⟨_, _, s, hs, hs1, hs2⟩ := Sp.hasB_iff.1 h6
    unfold hadL at hs
    obtain ⟨y, hy, rfl⟩ := List.mem_map.1 hs
    obtain ⟨hy1, hy2⟩ := List.mem_filter.1 hy
    exact ⟨y, hy1, of_decide_eq_true hy2, hs1, hs2⟩
  · rintro ⟨h1, h2, h3⟩
    have g1 : rightSpB f t = true := decide_eq_true h1
    have g2 : kindB k = true := decide_eq_true h2
    refine ⟨⟨g1, g2⟩, ord_nil (h g1 g2).out.ord fun x => ?_⟩
    rw [(h g1 g2).out.set x]
    unfold Sp.fCut
    cases hh : Sp.hasB [(f, t)] x with
    | false => rfl
    | true =>
      obtain ⟨a1, a2, s, hs, hs1, hs2⟩ := Sp.hasB_iff.1 hh
      obtain rfl := List.mem_singleton.1 hs
      obtain ⟨y, hy, hy1, hy2, hy3⟩ := h3 x hs1 hs2
      have : Sp.hasB (hadL l c i k) x = true := Sp.hasB_iff.2 ⟨a1, a2, (y.f, y.t), List.mem_map.2 ⟨y, List.mem_filter.2 ⟨hy, decide_eq_true hy1⟩, rfl⟩, hy2, hy3⟩
      rw [this]; rfl
/-- Has, as places -/
theorem has_w (u : Value) (l : List Le) (c i k f t : Int) (b : Bool) (w : World) (hu : LLe.Sl w u l) (hn : l.length ≤ 1000) (hf : (Lit.int .i64 f).wf = true) (ht : (Lit.int .i64 t).wf = true) (hb : b = true ↔ hadP l c i k f t) :
    Calls Try.prog 21 #[u, .int .i64 c, .int .i64 i, .int .i64 k, .agg #[.int .i64 f, .int .i64 t]] w fun e w' => e = .returned (.bool b) ∧ Ext w w' := by
  refine (has_v u l c i k f t w hu hn hf ht).mono ?_
  rintro e w' ⟨rfl, h, hx⟩
  refine ⟨?_, hx⟩
  have : hasLB l c i k f t = b := by rw [Bool.eq_iff_iff, had_iff h, hb]
  rw [this]

theorem rspan_any (f t : Int) (w : World) : Calls Try.prog 42 #[.agg #[.int .i64 f, .int .i64 t]] w fun e w' => e = .returned (.bool (rightSpB f t)) ∧ Ext w w' := by
  by_cases ha : 0 ≤ f
  · have da0 : decide (0 ≤ f) = true := decide_eq_true ha
    have Ha := Lib.hid ha
    clear ha
    by_cases hb : f < t
    · have db0 : decide (f < t) = true := decide_eq_true hb
      have Hb := Lib.hid hb
      clear hb
      by_cases hc : t ≤ 1099511627776
      · have dc0 : decide (t ≤ 1099511627776) = true := decide_eq_true hc
        have Hc := Lib.hid hc
        clear hc
        have e : rightSpB f t = true := by
          have ga := Ha.out
          have gb := Hb.out
          have gc := Hc.out
          unfold rightSpB
          exact decide_eq_true (by omega)
        rw [e]
        clear e
        go_enter Try.func42, Try.ntmps42
        go_wp2
        go_ret
        exact ⟨rfl, Ext.alloc _ _⟩
      · have dc0 : decide (t ≤ 1099511627776) = false := decide_eq_false hc
        have Hc := Lib.hid hc
        clear hc
        have e : rightSpB f t = false := by
          have ga := Ha.out
          have gb := Hb.out
          have gc := Hc.out
          unfold rightSpB
          exact decide_eq_false (by omega)
        rw [e]
        clear e
        go_enter Try.func42, Try.ntmps42
        go_wp2
        go_ret
        exact ⟨rfl, Ext.alloc _ _⟩
    · have db0 : decide (f < t) = false := decide_eq_false hb
      have Hb := Lib.hid hb
      clear hb
      have e : rightSpB f t = false := by
        have ga := Ha.out
        have gb := Hb.out
        unfold rightSpB
        exact decide_eq_false (by omega)
      rw [e]
      clear e
      go_enter Try.func42, Try.ntmps42
      go_wp2
      go_ret
      exact ⟨rfl, Ext.alloc _ _⟩
  · have da0 : decide (0 ≤ f) = false := decide_eq_false ha
    have Ha := Lib.hid ha
    clear ha
    have e : rightSpB f t = false := by
      have ga := Ha.out
      unfold rightSpB
      exact decide_eq_false (by omega)
    rw [e]
    clear e
    go_enter Try.func42, Try.ntmps42
    go_wp2
    go_ret
    exact ⟨rfl, Ext.alloc _ _⟩

set_option maxRecDepth 100000 in
set_option maxHeartbeats 4000000 in
theorem rone_any (x : Le) (w : World) : Calls Try.prog 26 #[.agg #[.int .i64 x.c, .int .i64 x.i, .int .i64 x.k, .int .i64 x.f, .int .i64 x.t, .int .i64 x.u, .int .i64 x.e]] w fun e w' => e = .returned (.bool (oneB x)) ∧ Ext w w' := by
  by_cases ha : 0 ≤ x.c
  · have da0 : decide (0 ≤ x.c) = true := decide_eq_true ha
    have Ha := Lib.hid ha
    clear ha
    by_cases hb : x.c < 16
    · have db0 : decide (x.c < 16) = true := decide_eq_true hb
      have Hb := Lib.hid hb
      clear hb
      by_cases hc : 1 ≤ x.i
      · have dc0 : decide (1 ≤ x.i) = true := decide_eq_true hc
        have Hc := Lib.hid hc
        clear hc
        by_cases hd : x.k = 1
        · have dd0 : (x.k == 1) = true := by simp [hd]
          have Hd := Lib.hid hd
          clear hd
          by_cases hs : 0 ≤ x.f ∧ x.f < x.t ∧ x.t ≤ 1099511627776
          · have ds0 : rightSpB x.f x.t = true := decide_eq_true hs
            have Hs := Lib.hid hs
            clear hs
            by_cases hg : 0 ≤ x.u
            · have dg0 : decide (0 ≤ x.u) = true := decide_eq_true hg
              have Hg := Lib.hid hg
              clear hg
              by_cases hh : x.u ≤ 4398046511104
              · have dh0 : decide (x.u ≤ 4398046511104) = true := decide_eq_true hh
                have Hh := Lib.hid hh
                clear hh
                by_cases hj : 0 ≤ x.e
                · have dj0 : decide (0 ≤ x.e) = true := decide_eq_true hj
                  have Hj := Lib.hid hj
                  clear hj
                  have e : oneB x = true := by
                    have ga := Ha.out
                    have gb := Hb.out
                    have gc := Hc.out
                    have gd := Hd.out
                    have gs := Hs.out
                    have gg := Hg.out
                    have gh := Hh.out
                    have gj := Hj.out
                    unfold oneB
                    exact decide_eq_true (by omega)
                  rw [e]
                  clear e
                  go_enter Try.func26, Try.ntmps26
                  go_wp2_with fail
                  refine (rspan_any _ _ _).mono ?_
                  rintro e w1 ⟨rfl, hx⟩
                  rw [ds0]
                  obtain ⟨b0, b1, b2, b3, b4, b5, b6⟩ := box_cells w w1 x _ hx
                  have HX := Lib.hid (Ext.trans (Ext.alloc _ _) hx)
                  clear hx
                  go_wp2
                  go_ret
                  exact ⟨rfl, HX.out⟩
                · have dj0 : decide (0 ≤ x.e) = false := decide_eq_false hj
                  have Hj := Lib.hid hj
                  clear hj
                  have e : oneB x = false := by
                    have ga := Ha.out
                    have gb := Hb.out
                    have gc := Hc.out
                    have gd := Hd.out
                    have gs := Hs.out
                    have gg := Hg.out
                    have gh := Hh.out
                    have gj := Hj.out
                    unfold oneB
                    exact decide_eq_false (by omega)
                  rw [e]
                  clear e
                  go_enter Try.func26, Try.ntmps26
                  go_wp2_with fail
                  refine (rspan_any _ _ _).mono ?_
                  rintro e w1 ⟨rfl, hx⟩
                  rw [ds0]
                  obtain ⟨b0, b1, b2, b3, b4, b5, b6⟩ := box_cells w w1 x _ hx
                  have HX := Lib.hid (Ext.trans (Ext.alloc _ _) hx)
                  clear hx
                  go_wp2
                  go_ret
                  exact ⟨rfl, HX.out⟩
              · have dh0 : decide (x.u ≤ 4398046511104) = false := decide_eq_false hh
                have Hh := Lib.hid hh
                clear hh
                have e : oneB x = false := by
                  have ga := Ha.out
                  have gb := Hb.out
                  have gc := Hc.out
                  have gd := Hd.out
                  have gs := Hs.out
                  have gg := Hg.out
                  have gh := Hh.out
                  unfold oneB
                  exact decide_eq_false (by omega)
                rw [e]
                clear e
                go_enter Try.func26, Try.ntmps26
                go_wp2_with fail
                refine (rspan_any _ _ _).mono ?_
                rintro e w1 ⟨rfl, hx⟩
                rw [ds0]
                obtain ⟨b0, b1, b2, b3, b4, b5, b6⟩ := box_cells w w1 x _ hx
                have HX := Lib.hid (Ext.trans (Ext.alloc _ _) hx)
                clear hx
                go_wp2
                go_ret
                exact ⟨rfl, HX.out⟩
            · have dg0 : decide (0 ≤ x.u) = false := decide_eq_false hg
              have Hg := Lib.hid hg
              clear hg
              have e : oneB x = false := by
                have ga := Ha.out
                have gb := Hb.out
                have gc := Hc.out
                have gd := Hd.out
                have gs := Hs.out
                have gg := Hg.out
                unfold oneB
                exact decide_eq_false (by omega)
              rw [e]
              clear e
              go_enter Try.func26, Try.ntmps26
              go_wp2_with fail
              refine (rspan_any _ _ _).mono ?_
              rintro e w1 ⟨rfl, hx⟩
              rw [ds0]
              obtain ⟨b0, b1, b2, b3, b4, b5, b6⟩ := box_cells w w1 x _ hx
              have HX := Lib.hid (Ext.trans (Ext.alloc _ _) hx)
              clear hx
              go_wp2
              go_ret
              exact ⟨rfl, HX.out⟩
          · have ds0 : rightSpB x.f x.t = false := decide_eq_false hs
            have Hs := Lib.hid hs
            clear hs
            have e : oneB x = false := by
              have ga := Ha.out
              have gb := Hb.out
              have gc := Hc.out
              have gd := Hd.out
              have gs := Hs.out
              unfold oneB
              exact decide_eq_false (by omega)
            rw [e]
            clear e
            go_enter Try.func26, Try.ntmps26
            go_wp2_with fail
            refine (rspan_any _ _ _).mono ?_
            rintro e w1 ⟨rfl, hx⟩
            rw [ds0]
            obtain ⟨b0, b1, b2, b3, b4, b5, b6⟩ := box_cells w w1 x _ hx
            have HX := Lib.hid (Ext.trans (Ext.alloc _ _) hx)
            clear hx
            go_wp2
            go_ret
            exact ⟨rfl, HX.out⟩
        · have dd0 : (x.k == 1) = false := by simp [hd]
          have Hd := Lib.hid hd
          clear hd
          by_cases he : x.k = 2
          · have de0 : (x.k == 2) = true := by simp [he]
            have He := Lib.hid he
            clear he
            by_cases hs : 0 ≤ x.f ∧ x.f < x.t ∧ x.t ≤ 1099511627776
            · have ds0 : rightSpB x.f x.t = true := decide_eq_true hs
              have Hs := Lib.hid hs
              clear hs
              by_cases hg : 0 ≤ x.u
              · have dg0 : decide (0 ≤ x.u) = true := decide_eq_true hg
                have Hg := Lib.hid hg
                clear hg
                by_cases hh : x.u ≤ 4398046511104
                · have dh0 : decide (x.u ≤ 4398046511104) = true := decide_eq_true hh
                  have Hh := Lib.hid hh
                  clear hh
                  by_cases hj : 0 ≤ x.e
                  · have dj0 : decide (0 ≤ x.e) = true := decide_eq_true hj
                    have Hj := Lib.hid hj
                    clear hj
                    have e : oneB x = true := by
                      have ga := Ha.out
                      have gb := Hb.out
                      have gc := Hc.out
                      have gd := Hd.out
                      have ge := He.out
                      have gs := Hs.out
                      have gg := Hg.out
                      have gh := Hh.out
                      have gj := Hj.out
                      unfold oneB
                      exact decide_eq_true (by omega)
                    rw [e]
                    clear e
                    go_enter Try.func26, Try.ntmps26
                    go_wp2_with fail
                    refine (rspan_any _ _ _).mono ?_
                    rintro e w1 ⟨rfl, hx⟩
                    rw [ds0]
                    obtain ⟨b0, b1, b2, b3, b4, b5, b6⟩ := box_cells w w1 x _ hx
                    have HX := Lib.hid (Ext.trans (Ext.alloc _ _) hx)
                    clear hx
                    go_wp2
                    go_ret
                    exact ⟨rfl, HX.out⟩
                  · have dj0 : decide (0 ≤ x.e) = false := decide_eq_false hj
                    have Hj := Lib.hid hj
                    clear hj
                    have e : oneB x = false := by
                      have ga := Ha.out
                      have gb := Hb.out
                      have gc := Hc.out
                      have gd := Hd.out
                      have ge := He.out
                      have gs := Hs.out
                      have gg := Hg.out
                      have gh := Hh.out
                      have gj := Hj.out
                      unfold oneB
                      exact decide_eq_false (by omega)
                    rw [e]
                    clear e
                    go_enter Try.func26, Try.ntmps26
                    go_wp2_with fail
                    refine (rspan_any _ _ _).mono ?_
                    rintro e w1 ⟨rfl, hx⟩
                    rw [ds0]
                    obtain ⟨b0, b1, b2, b3, b4, b5, b6⟩ := box_cells w w1 x _ hx
                    have HX := Lib.hid (Ext.trans (Ext.alloc _ _) hx)
                    clear hx
                    go_wp2
                    go_ret
                    exact ⟨rfl, HX.out⟩
                · have dh0 : decide (x.u ≤ 4398046511104) = false := decide_eq_false hh
                  have Hh := Lib.hid hh
                  clear hh
                  have e : oneB x = false := by
                    have ga := Ha.out
                    have gb := Hb.out
                    have gc := Hc.out
                    have gd := Hd.out
                    have ge := He.out
                    have gs := Hs.out
                    have gg := Hg.out
                    have gh := Hh.out
                    unfold oneB
                    exact decide_eq_false (by omega)
                  rw [e]
                  clear e
                  go_enter Try.func26, Try.ntmps26
                  go_wp2_with fail
                  refine (rspan_any _ _ _).mono ?_
                  rintro e w1 ⟨rfl, hx⟩
                  rw [ds0]
                  obtain ⟨b0, b1, b2, b3, b4, b5, b6⟩ := box_cells w w1 x _ hx
                  have HX := Lib.hid (Ext.trans (Ext.alloc _ _) hx)
                  clear hx
                  go_wp2
                  go_ret
                  exact ⟨rfl, HX.out⟩
              · have dg0 : decide (0 ≤ x.u) = false := decide_eq_false hg
                have Hg := Lib.hid hg
                clear hg
                have e : oneB x = false := by
                  have ga := Ha.out
                  have gb := Hb.out
                  have gc := Hc.out
                  have gd := Hd.out
                  have ge := He.out
                  have gs := Hs.out
                  have gg := Hg.out
                  unfold oneB
                  exact decide_eq_false (by omega)
                rw [e]
                clear e
                go_enter Try.func26, Try.ntmps26
                go_wp2_with fail
                refine (rspan_any _ _ _).mono ?_
                rintro e w1 ⟨rfl, hx⟩
                rw [ds0]
                obtain ⟨b0, b1, b2, b3, b4, b5, b6⟩ := box_cells w w1 x _ hx
                have HX := Lib.hid (Ext.trans (Ext.alloc _ _) hx)
                clear hx
                go_wp2
                go_ret
                exact ⟨rfl, HX.out⟩
            · have ds0 : rightSpB x.f x.t = false := decide_eq_false hs
              have Hs := Lib.hid hs
              clear hs
              have e : oneB x = false := by
                have ga := Ha.out
                have gb := Hb.out
                have gc := Hc.out
                have gd := Hd.out
                have ge := He.out
                have gs := Hs.out
                unfold oneB
                exact decide_eq_false (by omega)
              rw [e]
              clear e
              go_enter Try.func26, Try.ntmps26
              go_wp2_with fail
              refine (rspan_any _ _ _).mono ?_
              rintro e w1 ⟨rfl, hx⟩
              rw [ds0]
              obtain ⟨b0, b1, b2, b3, b4, b5, b6⟩ := box_cells w w1 x _ hx
              have HX := Lib.hid (Ext.trans (Ext.alloc _ _) hx)
              clear hx
              go_wp2
              go_ret
              exact ⟨rfl, HX.out⟩
          · have de0 : (x.k == 2) = false := by simp [he]
            have He := Lib.hid he
            clear he
            have e : oneB x = false := by
              have ga := Ha.out
              have gb := Hb.out
              have gc := Hc.out
              have gd := Hd.out
              have ge := He.out
              unfold oneB
              exact decide_eq_false (by omega)
            rw [e]
            clear e
            go_enter Try.func26, Try.ntmps26
            go_wp2
            go_ret
            exact ⟨rfl, Ext.alloc _ _⟩
      · have dc0 : decide (1 ≤ x.i) = false := decide_eq_false hc
        have Hc := Lib.hid hc
        clear hc
        have e : oneB x = false := by
          have ga := Ha.out
          have gb := Hb.out
          have gc := Hc.out
          unfold oneB
          exact decide_eq_false (by omega)
        rw [e]
        clear e
        go_enter Try.func26, Try.ntmps26
        go_wp2
        go_ret
        exact ⟨rfl, Ext.alloc _ _⟩
    · have db0 : decide (x.c < 16) = false := decide_eq_false hb
      have Hb := Lib.hid hb
      clear hb
      have e : oneB x = false := by
        have ga := Ha.out
        have gb := Hb.out
        unfold oneB
        exact decide_eq_false (by omega)
      rw [e]
      clear e
      go_enter Try.func26, Try.ntmps26
      go_wp2
      go_ret
      exact ⟨rfl, Ext.alloc _ _⟩
  · have da0 : decide (0 ≤ x.c) = false := decide_eq_false ha
    have Ha := Lib.hid ha
    clear ha
    have e : oneB x = false := by
      have ga := Ha.out
      unfold oneB
      exact decide_eq_false (by omega)
    rw [e]
    clear e
    go_enter Try.func26, Try.ntmps26
    go_wp2
    go_ret
    exact ⟨rfl, Ext.alloc _ _⟩
end Go.Proofs.Ytocnopgpdlfkjaa.Ls
