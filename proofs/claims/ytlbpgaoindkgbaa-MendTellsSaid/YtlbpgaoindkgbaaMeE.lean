/- Jobs: what is alike, the same, in all, few (the reference). -/
import Derived.Test.YtlbpgaoindkgbaaMeD
import Derived.BigQuiet
import Derived.Deep.RegionHeld3
namespace Go.Proofs.Ytlbpgaoindkgbaa.Me
open Go.RowKit Go.Proofs.Ytlbpgaoindkgbaa Go.Sort
set_option linter.unusedVariables false

def idxI (l : List Jb) (i t : Int) : Int := match l.findIdx? (fun y => decide (y.i = i ∧ y.t = t)) with
  | some k => (k : Int)
  | none => -1
theorem idx_at {l : List Jb} {i t : Int} {k : Nat} {y : Jb} (h : ∀ j, j < k → ∀ z, l[j]? = some z → ¬ (z.i = i ∧ z.t = t)) (hk : l[k]? = some y) (hy : y.i = i ∧ y.t = t) : idxI l i t = (k : Int) := by
  unfold idxI
  have : l.findIdx? (fun y => decide (y.i = i ∧ y.t = t)) = some k := by
    rw [List.findIdx?_eq_some_iff_getElem]
    obtain ⟨hl, e⟩ := List.getElem?_eq_some_iff.1 hk
    refine ⟨hl, by rw [e]; exact decide_eq_true hy, fun j hj => ?_⟩
    have := h j hj l[j] (List.getElem?_eq_getElem (by omega))
    simpa using this
  rw [this]
theorem idx_none {l : List Jb} {i t : Int} (h : ∀ (j : Nat) (z : Jb), l[j]? = some z → ¬ (z.i = i ∧ z.t = t)) : idxI l i t = -1 := by
  unfold idxI
  have : l.findIdx? (fun y => decide (y.i = i ∧ y.t = t)) = none := by
    rw [List.findIdx?_eq_none_iff]
    intro x hx
    obtain ⟨j, hj, rfl⟩ := List.getElem_of_mem hx
    exact decide_eq_false (h j _ (List.getElem?_eq_getElem hj))
  rw [this]
theorem idx_cases (l : List Jb) (i t : Int) : (∃ (k : Nat) (y : Jb), l[k]? = some y ∧ (y.i = i ∧ y.t = t) ∧ (∀ j, j < k → ∀ z, l[j]? = some z → ¬ (z.i = i ∧ z.t = t)) ∧ idxI l i t = (k : Int)) ∨ ((∀ (j : Nat) (z : Jb), l[j]? = some z → ¬ (z.i = i ∧ z.t = t)) ∧ idxI l i t = -1) := by
  cases e : l.findIdx? (fun y => decide (y.i = i ∧ y.t = t)) with
  | none =>
    have h : ∀ (j : Nat) (z : Jb), l[j]? = some z → ¬ (z.i = i ∧ z.t = t) := fun j z hz => by
      have := List.findIdx?_eq_none_iff.1 e z (List.mem_of_getElem? hz)
      simpa using this
    exact .inr ⟨h, idx_none h⟩
  | some k =>
    obtain ⟨hl, h1, h2⟩ := List.findIdx?_eq_some_iff_getElem.1 e
    have h3 : ∀ j, j < k → ∀ z, l[j]? = some z → ¬ (z.i = i ∧ z.t = t) := fun j hj z hz => by
      obtain ⟨hjl, rfl⟩ := List.getElem?_eq_some_iff.1 hz
      have := h2 j hj
      simpa using this
    exact .inl ⟨k, l[k], List.getElem?_eq_getElem hl, by simpa using h1, h3, idx_at h3 (List.getElem?_eq_getElem hl) (by simpa using h1)⟩
theorem idx_seen (S : List Jb) (x : Jb) : (0 ≤ idxI S x.i x.t) ↔ seenB S x = true := by
  unfold seenB
  rw [decide_eq_true_iff]
  rcases idx_cases S x.i x.t with ⟨k, y, h1, h2, _, h4⟩ | ⟨h1, h2⟩
  · rw [h4]; exact ⟨fun _ => ⟨y, List.mem_of_getElem? h1, h2⟩, fun _ => by omega⟩
  · rw [h2]; refine ⟨fun h => by omega, fun ⟨y, hy, e⟩ => ?_⟩
    obtain ⟨j, hj, rfl⟩ := List.getElem_of_mem hy
    exact absurd e (h1 j _ (List.getElem?_eq_getElem hj))
def AlikeR (w1 : World) (l : List Jb) (i t : Int) (n : Nat) (ix : Value) (wr : World) : Prop := ∃ k : Nat, ix = .int .i64 k ∧ k ≤ n ∧ Hid (∀ j, j < k → ∀ z, l[j]? = some z → ¬ (z.i = i ∧ z.t = t)) ∧ Ext w1 wr
set_option maxRecDepth 100000 in
set_option maxHeartbeats 4000000 in
theorem alike_any (u : Value) (l : List Jb) (x : Jb) (w : World) (hu : LJb.Sl w u l) : Calls Try.prog 25 #[u, .agg #[.int .i64 x.i, .int .i64 x.v, .int .i64 x.f, .int .i64 x.t, .int .i64 x.h, .int .i64 x.l]] w fun e w' => e = .returned (.int .i64 (idxI l x.i x.t)) ∧ Ext w w' := by
  obtain ⟨p, n, c, rfl, hl, _, _, _⟩ := hu
  have HP := Lib.hid hl
  have hn := hl.2.1
  clear hl
  go_enter Try.func25, Try.ntmps25
  go_wp2
  obtain ⟨w1, hw1⟩ : ∃ w1, w.alloc (.cells #[.int .i64 x.i, .int .i64 x.v, .int .i64 x.f, .int .i64 x.t, .int .i64 x.h, .int .i64 x.l] 33) = w1 := ⟨_, rfl⟩
  have HX1 : Hid (Ext w w1) := Lib.hid (by rw [← hw1]; exact Ext.alloc _ _)
  have b0 : w1.cell? ⟨w.heap.size, 0, none⟩ = some (.int .i64 x.i) := by rw [← hw1]; exact cell_of_row _ _ 0 _ _ _ (heap_alloc_new w _)
  have b1 : w1.cell? ⟨w.heap.size, 1, none⟩ = some (.int .i64 x.v) := by rw [← hw1]; exact cell_of_row _ _ 1 _ _ _ (heap_alloc_new w _)
  have b2 : w1.cell? ⟨w.heap.size, 2, none⟩ = some (.int .i64 x.f) := by rw [← hw1]; exact cell_of_row _ _ 2 _ _ _ (heap_alloc_new w _)
  have b3 : w1.cell? ⟨w.heap.size, 3, none⟩ = some (.int .i64 x.t) := by rw [← hw1]; exact cell_of_row _ _ 3 _ _ _ (heap_alloc_new w _)
  have b4 : w1.cell? ⟨w.heap.size, 4, none⟩ = some (.int .i64 x.h) := by rw [← hw1]; exact cell_of_row _ _ 4 _ _ _ (heap_alloc_new w _)
  have b5 : w1.cell? ⟨w.heap.size, 5, none⟩ = some (.int .i64 x.l) := by rw [← hw1]; exact cell_of_row _ _ 5 _ _ _ (heap_alloc_new w _)
  rw [hw1]
  clear hw1
  have HB := Lib.hid (And.intro b0 b3)
  clear b0 b1 b2 b3 b4 b5
  go_loopw [5] (fun i wr => AlikeR w1 l x.i x.t n i wr) (fun i _ => n - (intOf i).toNat)
  case atStart => exact ⟨0, rfl, by omega, Lib.hid (by intro j hj; omega), Ext.refl _⟩
  case round =>
    obtain ⟨j, rfl, hj, HE, hx⟩ := hrel
    by_cases hlt : j < n
    · have hlt' : (j : Int) < (n : Int) := by omega
      have hlt0 : (0 : Int) ≤ (j : Int) := by omega
      obtain ⟨y, gy⟩ := get_of l j (by rw [HP.out.1]; exact hlt)
      obtain ⟨b, off, rfl, _, y0, y1, y2, y3, y4, y5⟩ := jb_at (HP.out.ext (Ext.trans HX1.out hx)) gy
      have b0 := hx.cell HB.out.1
      have b3 := hx.cell HB.out.2
      have GY := Lib.hid gy
      clear gy y1 y2 y4 y5
      by_cases hi : y.i = x.i
      · have ei : (y.i == x.i) = true := by simp [hi]
        have Hi := Lib.hid hi
        clear hi
        by_cases ht : y.t = x.t
        · have et : (y.t == x.t) = true := by simp [ht]
          have HR : Hid (idxI l x.i x.t = (j : Int)) := Lib.hid (idx_at HE.out GY.out ⟨Hi.out, ht⟩)
          clear ht
          go_wp2
          go_quiet (fail)
          go_wp2
          go_ret
          exact ⟨by rw [HR.out]; rfl, Ext.trans HX1.out (Ext.drewN hx _)⟩
        · have et : (y.t == x.t) = false := by simp [ht]
          have Ht := Lib.hid ht
          clear ht
          go_wp2
          go_quiet (fail)
          go_wp2
          go_roundw
          case rel => exact ⟨j + 1, by go_num, by omega, Lib.hid (fun s hs z hz => by
            by_cases e : s = j
            · subst e; rw [GY.out] at hz; injection hz with hz; subst hz; exact fun h => Ht.out h.2
            · exact HE.out s (by omega) z hz), Ext.drewN hx _⟩
          case measure => simp [intOf]; omega
      · have ei : (y.i == x.i) = false := by simp [hi]
        have Hi := Lib.hid hi
        clear hi
        go_wp2
        go_quiet (fail)
        go_wp2
        go_roundw
        case rel => exact ⟨j + 1, by go_num, by omega, Lib.hid (fun s hs z hz => by
          by_cases e : s = j
          · subst e; rw [GY.out] at hz; injection hz with hz; subst hz; exact fun h => Hi.out h.1
          · exact HE.out s (by omega) z hz), Ext.drewN hx _⟩
        case measure => simp [intOf]; omega
    · obtain rfl : j = n := by omega
      have HR : Hid (idxI l x.i x.t = -1) := Lib.hid (idx_none fun s z hz => HE.out s (by have := (List.getElem?_eq_some_iff.1 hz).1; have := HP.out.1; omega) z hz)
      go_wp2
      go_ret
      exact ⟨by rw [HR.out]; rfl, Ext.trans HX1.out hx⟩
theorem jb_eq {x y : Jb} (h : x.i = y.i ∧ x.v = y.v ∧ x.f = y.f ∧ x.t = y.t ∧ x.h = y.h ∧ x.l = y.l) : x = y := by
  cases x; cases y
  simp only at h
  obtain ⟨rfl, rfl, rfl, rfl, rfl, rfl⟩ := h
  rfl
theorem get_eq {β : Type} {xs ys : List β} (h : xs.length = ys.length) (h2 : ∀ j, j < xs.length → xs[j]? = ys[j]?) : xs = ys := by
  apply List.ext_getElem?
  intro j
  by_cases hj : j < xs.length
  · exact h2 j hj
  · rw [List.getElem?_eq_none (by omega), List.getElem?_eq_none (by omega)]
def SameR (w : World) (l k : List Jb) (n : Nat) (i : Value) (wr : World) : Prop := ∃ j : Nat, i = .int .i64 j ∧ j ≤ n ∧ Hid (∀ s, s < j → l[s]? = k[s]?) ∧ Ext w wr
set_option maxRecDepth 100000 in
set_option maxHeartbeats 4000000 in
theorem same_v (u v : Value) (l k : List Jb) (w : World) (hu : LJb.Sl w u l) (hv : LJb.Sl w v k) : Calls Try.prog 16 #[u, v] w fun e w' => e = .returned (.bool (decide (l = k))) ∧ Ext w w' := by
  obtain ⟨p, n, c, rfl, hl, _, _, _⟩ := hu
  obtain ⟨q, m, d, rfl, hk, _, _, _⟩ := hv
  have HP := Lib.hid hl
  have HQ := Lib.hid hk
  have hn := hl.2.1
  have hm := hk.2.1
  clear hl hk
  by_cases hnm : n = m
  · subst hnm
    have hb : ((n : Int) != (n : Int)) = false := by simp
    go_enter Try.func16, Try.ntmps16
    go_wp2
    go_loopw [5] (fun i wr => SameR w l k n i wr) (fun i _ => n - (intOf i).toNat)
    case atStart => exact ⟨0, rfl, by omega, Lib.hid (by intro j hj; omega), Ext.refl _⟩
    case round =>
      obtain ⟨j, rfl, hj, HE, hx⟩ := hrel
      by_cases hlt : j < n
      · have hlt' : (j : Int) < (n : Int) := by omega
        have hlt0 : (0 : Int) ≤ (j : Int) := by omega
        obtain ⟨x, gx⟩ := get_of l j (by rw [HP.out.1]; exact hlt)
        obtain ⟨y, gy⟩ := get_of k j (by rw [HQ.out.1]; exact hlt)
        obtain ⟨b, off, rfl, _, x0, x1, x2, x3, x4, x5⟩ := jb_at (HP.out.ext hx) gx
        obtain ⟨b2, off2, rfl, _, y0, y1, y2, y3, y4, y5⟩ := jb_at (HQ.out.ext hx) gy
        have GX := Lib.hid gx
        have GY := Lib.hid gy
        clear gx gy
        by_cases hi : x.i = y.i
        · have ei : (x.i == y.i) = true := by simp [hi]
          have Hi := Lib.hid hi
          clear hi
          by_cases hv : x.v = y.v
          · have ev : (x.v == y.v) = true := by simp [hv]
            have Hv := Lib.hid hv
            clear hv
            by_cases hf : x.f = y.f
            · have ef : (x.f == y.f) = true := by simp [hf]
              have Hf := Lib.hid hf
              clear hf
              by_cases ht : x.t = y.t
              · have et : (x.t == y.t) = true := by simp [ht]
                have Ht := Lib.hid ht
                clear ht
                by_cases hh : x.h = y.h
                · have eh : (x.h == y.h) = true := by simp [hh]
                  have Hh := Lib.hid hh
                  clear hh
                  by_cases hl : x.l = y.l
                  · have el : (x.l == y.l) = true := by simp [hl]
                    have Hl := Lib.hid hl
                    clear hl
                    go_wp2
                    go_quiet (fail)
                    go_wp2
                    go_roundw
                    case rel => exact ⟨j + 1, by go_num, by omega, Lib.hid (fun s hs => by
                      by_cases e : s = j
                      · subst e; rw [GX.out, GY.out, jb_eq ⟨Hi.out, Hv.out, Hf.out, Ht.out, Hh.out, Hl.out⟩]
                      · exact HE.out s (by omega)), Ext.drewN hx _⟩
                    case measure => simp [intOf]; omega
                  · have el : (x.l == y.l) = false := by simp [hl]
                    have Hl := Lib.hid hl
                    clear hl
                    go_wp2
                    go_quiet (fail)
                    go_wp2
                    go_ret
                    exact ⟨ret_bool (decide_eq_false (fun h => Hl.out (by have h1 := GX.out; rw [h, GY.out] at h1; injection h1 with h1; rw [h1]))).symm, Ext.drewN hx _⟩
                · have eh : (x.h == y.h) = false := by simp [hh]
                  have Hh := Lib.hid hh
                  clear hh
                  go_wp2
                  go_quiet (fail)
                  go_wp2
                  go_ret
                  exact ⟨ret_bool (decide_eq_false (fun h => Hh.out (by have h1 := GX.out; rw [h, GY.out] at h1; injection h1 with h1; rw [h1]))).symm, Ext.drewN hx _⟩
              · have et : (x.t == y.t) = false := by simp [ht]
                have Ht := Lib.hid ht
                clear ht
                go_wp2
                go_quiet (fail)
                go_wp2
                go_ret
                exact ⟨ret_bool (decide_eq_false (fun h => Ht.out (by have h1 := GX.out; rw [h, GY.out] at h1; injection h1 with h1; rw [h1]))).symm, Ext.drewN hx _⟩
            · have ef : (x.f == y.f) = false := by simp [hf]
              have Hf := Lib.hid hf
              clear hf
              go_wp2
              go_quiet (fail)
              go_wp2
              go_ret
              exact ⟨ret_bool (decide_eq_false (fun h => Hf.out (by have h1 := GX.out; rw [h, GY.out] at h1; injection h1 with h1; rw [h1]))).symm, Ext.drewN hx _⟩
          · have ev : (x.v == y.v) = false := by simp [hv]
            have Hv := Lib.hid hv
            clear hv
            go_wp2
            go_quiet (fail)
            go_wp2
            go_ret
            exact ⟨ret_bool (decide_eq_false (fun h => Hv.out (by have h1 := GX.out; rw [h, GY.out] at h1; injection h1 with h1; rw [h1]))).symm, Ext.drewN hx _⟩
        · have ei : (x.i == y.i) = false := by simp [hi]
          have Hi := Lib.hid hi
          clear hi
          go_wp2
          go_quiet (fail)
          go_wp2
          go_ret
          exact ⟨ret_bool (decide_eq_false (fun h => Hi.out (by have h1 := GX.out; rw [h, GY.out] at h1; injection h1 with h1; rw [h1]))).symm, Ext.drewN hx _⟩
      · obtain rfl : j = n := by omega
        have HL : Hid (l = k) := Lib.hid (get_eq (by rw [HP.out.1, HQ.out.1]) fun s hs => HE.out s (by rw [← HP.out.1]; exact hs))
        go_wp2
        go_ret
        exact ⟨ret_bool (decide_eq_true HL.out).symm, hx⟩
  · have hb : ((n : Int) != (m : Int)) = true := by simp; omega
    go_enter Try.func16, Try.ntmps16
    go_wp2
    go_ret
    exact ⟨ret_bool (decide_eq_false (fun h => hnm (by rw [← HP.out.1, ← HQ.out.1, h]))).symm, Ext.refl _⟩
def totI (l : List Jb) : Int := (l.map (·.l)).sum
theorem tot_snoc (l : List Jb) (k : Nat) (x : Jb) (h : l[k]? = some x) : totI (l.take (k + 1)) = totI (l.take k) + x.l := by
  unfold totI; rw [List.take_add_one, h]; simp
def SmallL (l : List Jb) : Prop := ∀ x ∈ l, 0 ≤ x.l ∧ x.l ≤ 65
theorem tot_bd : ∀ {l : List Jb}, SmallL l → 0 ≤ totI l ∧ totI l ≤ 65 * (l.length : Int)
  | [], _ => by simp [totI]
  | x :: l, h => by
    have h1 := tot_bd (l := l) fun y hy => h y (by simp [hy])
    have h2 := h x (by simp)
    unfold totI at *
    simp only [List.map_cons, List.sum_cons, List.length_cons]
    omega
theorem small_take {l : List Jb} (h : SmallL l) (k : Nat) : SmallL (l.take k) := fun x hx => h x (List.mem_of_mem_take hx)
def TotR (w : World) (l : List Jb) (n : Nat) (v i : Value) (wr : World) : Prop := ∃ k : Nat, i = .int .i64 k ∧ k ≤ n ∧ v = .int .i64 (totI (l.take k)) ∧ w = wr
set_option maxRecDepth 100000 in
set_option maxHeartbeats 4000000 in
theorem total_any (u : Value) (l : List Jb) (w : World) (hu : LJb.Sl w u l) (hs : SmallL l) (hn : l.length ≤ 1000) : Calls Try.prog 22 #[u] w fun e w' => e = .returned (.int .i64 (totI l)) ∧ w = w' := by
  obtain ⟨p, n, c, rfl, hl, _, _, _⟩ := hu
  have HP := Lib.hid hl
  have HS := Lib.hid hs
  have HN : Hid (n ≤ 1000) := Lib.hid (by rw [← hl.1]; exact hn)
  clear hl hs hn
  go_enter Try.func22, Try.ntmps22
  go_wp2
  go_loopw [3, 4] (fun v i wr => TotR w l n v i wr) (fun _ i _ => n - (intOf i).toNat)
  case atStart => exact ⟨0, rfl, by omega, rfl, rfl⟩
  case round =>
    obtain ⟨j, rfl, hj, rfl, rfl⟩ := hrel
    by_cases hlt : j < n
    · have hlt' : (j : Int) < (n : Int) := by omega
      have hlt0 : (0 : Int) ≤ (j : Int) := by omega
      obtain ⟨y, gy⟩ := get_of l j (by rw [HP.out.1]; exact hlt)
      obtain ⟨b, off, rfl, _, y0, y1, y2, y3, y4, y5⟩ := jb_at HP.out gy
      have hb := tot_bd (small_take HS.out j)
      have hy := HS.out y (List.mem_of_getElem? gy)
      have hlen : ((l.take j).length : Int) ≤ 1000 := by have := HN.out; simp; omega
      have HT : Hid (totI (l.take (j + 1)) = totI (l.take j) + y.l) := Lib.hid (tot_snoc l j y gy)
      obtain ⟨T, hT⟩ : ∃ T, totI (l.take j) = T := ⟨_, rfl⟩
      rw [hT] at hb HT ⊢
      obtain ⟨hb0, hb1⟩ := hb
      obtain ⟨hy0, hy1⟩ := hy
      clear gy hT y0 y1 y2 y3 y4
      go_wp2
      go_roundw
      case rel => exact ⟨j + 1, by go_num, by omega, by rw [HT.out], by first | rfl | trivial⟩
      case measure => simp [intOf]; omega
    · obtain rfl : j = n := by omega
      have HE : Hid (l.take j = l) := Lib.hid (List.take_of_length_le (by rw [HP.out.1]; omega))
      rw [HE.out]
      go_wp2
      go_ret
      exact ⟨rfl, by first | rfl | trivial⟩
theorem job_any (h i t l : Int) (w : World) : Calls Try.prog 23 #[.int .i64 h, .int .i64 i, .int .i64 t, .int .i64 l] w fun e w' => e = .returned (.agg #[.int .i64 i, .int .i64 0, .int .i64 9, .int .i64 t, .int .i64 h, .int .i64 l]) ∧ Ext w w' := by
  go_enter Try.func23, Try.ntmps23
  go_wp2
  refine bodyPost_ret (v := .agg #[.int .i64 i, .int .i64 0, .int .i64 9, .int .i64 t, .int .i64 h, .int .i64 l]) (results_cell_row rfl _ _ w.heap.size 33 #[.int .i64 i, .int .i64 0, .int .i64 9, .int .i64 t, .int .i64 h, .int .i64 l] (0, 0) _ rfl (heap_alloc_new _ _) Try.underlying33 rfl (by kernel_rfl)) rfl ⟨rfl, ?_⟩
  exact Ext.alloc _ _
end Go.Proofs.Ytlbpgaoindkgbaa.Me
