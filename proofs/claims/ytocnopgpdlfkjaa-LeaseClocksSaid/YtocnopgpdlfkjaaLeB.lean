/- Leases: rows of those of which something is true; over, back, clashing, others. -/
import Derived.Test.YtocnopgpdlfkjaaLeA
namespace Go.Proofs.Ytocnopgpdlfkjaa.Ls
open Go.RowKit Go.Proofs.Ytocnopgpdlfkjaa
set_option linter.unusedVariables false

theorem info_le : (Try.prog.info? 26).map (fun i => (i.zero, i.size, i.bytes)) = some (some (.agg #[.int .i64 0, .int .i64 0, .int .i64 0, .int .i64 0, .int .i64 0, .int .i64 0, .int .i64 0]), LLe.size, 56) := by kernel_rfl
def RetLe (m : List Le) (w : World) (e : Ending) (w' : World) : Prop := (∃ v, e = .returned v ∧ LLe.Own w' w.heap.size 26 v m) ∧ Ext w w'
def KeepR (w : World) (f : Le → Bool) (l : List Le) (n : Nat) (v i : Value) (wr : World) : Prop := ∃ k : Nat, k ≤ n ∧ i = .int .i64 k ∧ LLe.Own wr w.heap.size 26 v ((l.take k).filter f) ∧ Ext w wr
theorem grown_of {a b c : World} {row : Option Nat} (h : Ext a b) (k : b.grownBy c row) : a.grownBy c row := Lay.grown_trans (Lay.grown_ext h row) k
theorem box_cells (w w2 : World) (x : Le) (t : TypeId) (h : Ext (w.alloc (.cells #[.int .i64 x.c, .int .i64 x.i, .int .i64 x.k, .int .i64 x.f, .int .i64 x.t, .int .i64 x.u, .int .i64 x.e] t)) w2) : w2.cell? ⟨w.heap.size, 0, none⟩ = some (.int .i64 x.c) ∧ w2.cell? ⟨w.heap.size, 1, none⟩ = some (.int .i64 x.i) ∧ w2.cell? ⟨w.heap.size, 2, none⟩ = some (.int .i64 x.k) ∧ w2.cell? ⟨w.heap.size, 3, none⟩ = some (.int .i64 x.f) ∧ w2.cell? ⟨w.heap.size, 4, none⟩ = some (.int .i64 x.t) ∧ w2.cell? ⟨w.heap.size, 5, none⟩ = some (.int .i64 x.u) ∧ w2.cell? ⟨w.heap.size, 6, none⟩ = some (.int .i64 x.e) :=
  ⟨h.cell (cell_of_row _ _ 0 _ _ _ (heap_alloc_new w _)), h.cell (cell_of_row _ _ 1 _ _ _ (heap_alloc_new w _)), h.cell (cell_of_row _ _ 2 _ _ _ (heap_alloc_new w _)), h.cell (cell_of_row _ _ 3 _ _ _ (heap_alloc_new w _)), h.cell (cell_of_row _ _ 4 _ _ _ (heap_alloc_new w _)), h.cell (cell_of_row _ _ 5 _ _ _ (heap_alloc_new w _)), h.cell (cell_of_row _ _ 6 _ _ _ (heap_alloc_new w _))⟩

set_option maxRecDepth 100000 in
set_option maxHeartbeats 4000000 in
theorem keep_v (g : Nat) (cb : Array Value) (f : Le → Bool) (u : Value) (l : List Le) (w : World) (hu : LLe.Sl w u l) (hn : l.length ≤ 100000) (eg : ∀ args w, (callFunc g args).run Try.prog w = .ok (.enter g args) w)
    (hf : ∀ (x : Le) (W : World), Ext w W → LeWf x → Calls Try.prog g (#[.agg #[.int .i64 x.c, .int .i64 x.i, .int .i64 x.k, .int .i64 x.f, .int .i64 x.t, .int .i64 x.u, .int .i64 x.e]] ++ cb) W fun e w' => e = .returned (.bool (f x)) ∧ Ext W w') :
    Calls Try.prog 34 #[u, .func (.func g) #[] cb] w (RetLe (l.filter f) w) := by
  obtain ⟨i0, hi0, hzi0, hzi1, hzi2⟩ := info_parts info_le
  obtain ⟨p, n, c, rfl, hr, _, _, _⟩ := hu
  have HP := Lib.hid hr
  have HF := Lib.hid hf
  have hn63 := hr.2.1
  have HN : Hid (n ≤ 100000) := Lib.hid (by rw [← hr.1]; exact hn)
  clear hr hf hn
  go_enter Try.func34, Try.ntmps34
  go_wp2
  go_loopw [5, 10] (fun v i wr => KeepR w f l n v i wr) (fun _ i _ => n - (intOf i).toNat)
  case atStart => exact ⟨0, by omega, rfl, Lay.Own.nil _ _ _ _, Ext.refl _⟩
  case round =>
    obtain ⟨k, hk, rfl, hown, hx⟩ := hrel
    have HO := Lib.hid hown
    clear hown
    by_cases hlt : k < n
    · obtain ⟨x, gx⟩ := get_of l k (by rw [HP.out.1]; exact hlt)
      obtain ⟨b, off, rfl, hw, c0, c1, c2, c3, c4, c5, c6⟩ := le_at (HP.out.ext hx) gx
      have GX := Lib.hid gx
      have HW := Lib.hid hw
      have HX := Lib.hid hx
      have HSZ := hx.size
      have hlt' : (k : Int) < (n : Int) := by omega
      have hlt0 : (0 : Int) ≤ (k : Int) := by omega
      have HLE : Hid (((l.take k).filter f).length + 1 ≤ 1000000) := Lib.hid (by
        have h1 := List.length_filter_le f (l.take k)
        have h2 := HN.out
        simp only [List.length_take] at h1
        omega)
      clear gx hw hx
      obtain ⟨q, hq⟩ : ∃ q, f x = q := ⟨_, rfl⟩
      have HQ := Lib.hid hq
      clear hq
      have HFX := Lib.hid (HF.out x (wr.alloc (.cells #[.int .i64 x.c, .int .i64 x.i, .int .i64 x.k, .int .i64 x.f, .int .i64 x.t, .int .i64 x.u, .int .i64 x.e] 26)) (Ext.trans HX.out (Ext.alloc _ _)) HW.out)
      go_wp2_with fail
      refine HFX.out.mono ?_
      rintro e w2 ⟨rfl, hx2⟩
      rw [HQ.out]
      obtain ⟨b0, b1, b2, b3, b4, b5, b6⟩ := box_cells wr w2 x _ hx2
      have HX2 := Lib.hid (Ext.trans (Ext.alloc _ _) hx2)
      clear hx2 HFX c0 c1 c2 c3 c4 c5 c6
      cases q
      · have HTF : Hid ((l.take (k + 1)).filter f = (l.take k).filter f) := Lib.hid (by rw [List.take_add_one, GX.out, List.filter_append]; simp [HQ.out])
        go_wp2
        go_roundw
        case rel => exact ⟨k + 1, by omega, by go_num, by rw [HTF.out]; exact HO.out.ext HX2.out, Ext.trans HX.out HX2.out⟩
        case measure => simp [intOf]; omega
      · have HTF : Hid ((l.take (k + 1)).filter f = (l.take k).filter f ++ [x]) := Lib.hid (by rw [List.take_add_one, GX.out, List.filter_append]; simp [HQ.out])
        go_wp2_with (at_builtin; refine Lay.wpList_append (E := LLe) rfl (.tmp 17) (.tmp 19) 22 rfl w.heap.size 26 i0 (.agg #[.int .i64 0, .int .i64 0, .int .i64 0, .int .i64 0, .int .i64 0, .int .i64 0, .int .i64 0]) 56 Try.underlying22 hi0 hzi0 hzi1 hzi2 rfl _ ((l.take k).filter f) rfl (HO.out.ext (Ext.trans HX2.out (Ext.alloc _ _))) (some ⟨w2.heap.size, 0, none⟩) 1 1 ([x]) rfl (fun _ => ⟨_, _, rfl⟩) (Nat.le_refl _) (plain_le.lit (Ext.refl _) (Lay.All.single ⟨rfl, HW.out⟩) rfl rfl (by decide)) (by have := HLE.out; unfold maxLen; omega) (by have := HLE.out; omega) (Ext.trans HX.out (Ext.trans HX2.out (Ext.alloc _ _))).size ?_; intro v2 w3 hown2 hg2; have X3 := HO.out.below HX.out (Nat.le_refl _) (grown_of (Ext.trans HX2.out (Ext.alloc _ _)) hg2); rw [← HTF.out] at hown2; have HO3 := Lib.hid hown2; clear hown2 hg2)
        go_roundw
        case rel => exact ⟨k + 1, by omega, by go_num, HO3.out, X3⟩
        case measure => simp [intOf]; omega
    · obtain rfl : k = n := by omega
      have e0 : l.take k = l := List.take_of_length_le (by rw [HP.out.1]; omega)
      rw [e0] at HO
      clear e0
      go_wp2
      go_ret
      exact ⟨⟨_, rfl, HO.out⟩, hx⟩

theorem over1_any (x : Le) (B : Nat) (now : Int) (w : World) (hB : w.cell? ⟨B, 0, none⟩ = some (.int .i64 now)) : Calls Try.prog 37 #[.agg #[.int .i64 x.c, .int .i64 x.i, .int .i64 x.k, .int .i64 x.f, .int .i64 x.t, .int .i64 x.u, .int .i64 x.e], .pointer (some ⟨B, 0, none⟩)] w fun e w' => e = .returned (.bool (decide (now < x.u))) ∧ Ext w w' := by
  have hB1 := (Ext.alloc w (.cells #[.int .i64 x.c, .int .i64 x.i, .int .i64 x.k, .int .i64 x.f, .int .i64 x.t, .int .i64 x.u, .int .i64 x.e] 26)).cell hB
  go_enter Try.func37, Try.ntmps37
  go_wp2
  go_ret
  exact ⟨rfl, Ext.alloc _ _⟩

set_option maxRecDepth 100000 in
set_option maxHeartbeats 4000000 in
theorem back1_any (x : Le) (B D : Nat) (c i : Int) (w : World) (hB : w.cell? ⟨B, 0, none⟩ = some (.int .i64 c)) (hD : w.cell? ⟨D, 0, none⟩ = some (.int .i64 i)) : Calls Try.prog 38 #[.agg #[.int .i64 x.c, .int .i64 x.i, .int .i64 x.k, .int .i64 x.f, .int .i64 x.t, .int .i64 x.u, .int .i64 x.e], .pointer (some ⟨B, 0, none⟩), .pointer (some ⟨D, 0, none⟩)] w fun e w' => e = .returned (.bool (!decide (x.c = c ∧ x.i = i))) ∧ Ext w w' := by
  have hB1 := (Ext.alloc w (.cells #[.int .i64 x.c, .int .i64 x.i, .int .i64 x.k, .int .i64 x.f, .int .i64 x.t, .int .i64 x.u, .int .i64 x.e] 26)).cell hB
  have hD1 := (Ext.alloc w (.cells #[.int .i64 x.c, .int .i64 x.i, .int .i64 x.k, .int .i64 x.f, .int .i64 x.t, .int .i64 x.u, .int .i64 x.e] 26)).cell hD
  by_cases hc : x.c = c
  · have dc0 : (x.c != c) = false := by simp [hc]
    have Hc := Lib.hid hc
    clear hc
    by_cases hi : x.i = i
    · have di0 : (x.i != i) = false := by simp [hi]
      have Hi := Lib.hid hi
      clear hi
      have e : (!decide (x.c = c ∧ x.i = i)) = false := by rw [decide_eq_true ⟨Hc.out, Hi.out⟩]; rfl
      rw [e]
      clear e
      go_enter Try.func38, Try.ntmps38
      go_wp2
      go_ret
      exact ⟨rfl, Ext.alloc _ _⟩
    · have di0 : (x.i != i) = true := by simp [hi]
      have Hi := Lib.hid hi
      clear hi
      have e : (!decide (x.c = c ∧ x.i = i)) = true := by rw [decide_eq_false (fun h => Hi.out h.2)]; rfl
      rw [e]
      clear e
      go_enter Try.func38, Try.ntmps38
      go_wp2
      go_ret
      exact ⟨rfl, Ext.alloc _ _⟩
  · have dc0 : (x.c != c) = true := by simp [hc]
    have Hc := Lib.hid hc
    clear hc
    have e : (!decide (x.c = c ∧ x.i = i)) = true := by rw [decide_eq_false (fun h => Hc.out h.1)]; rfl
    rw [e]
    clear e
    go_enter Try.func38, Try.ntmps38
    go_wp2
    go_ret
    exact ⟨rfl, Ext.alloc _ _⟩

set_option maxRecDepth 100000 in
set_option maxHeartbeats 4000000 in
theorem clash1_any (x q : Le) (B : Nat) (w : World) (h0 : w.cell? ⟨B, 0, none⟩ = some (.int .i64 q.c)) (h1 : w.cell? ⟨B, 1, none⟩ = some (.int .i64 q.i)) (h2 : w.cell? ⟨B, 2, none⟩ = some (.int .i64 q.k)) (h3 : w.cell? ⟨B, 3, none⟩ = some (.int .i64 q.f)) (h4 : w.cell? ⟨B, 4, none⟩ = some (.int .i64 q.t)) (h5 : w.cell? ⟨B, 5, none⟩ = some (.int .i64 q.u)) (h6 : w.cell? ⟨B, 6, none⟩ = some (.int .i64 q.e)) : Calls Try.prog 52 #[.agg #[.int .i64 x.c, .int .i64 x.i, .int .i64 x.k, .int .i64 x.f, .int .i64 x.t, .int .i64 x.u, .int .i64 x.e], .pointer (some ⟨B, 0, none⟩)] w fun e w' => e = .returned (.bool (clashB x q)) ∧ Ext w w' := by
  have k0 := (Ext.alloc w (.cells #[.int .i64 x.c, .int .i64 x.i, .int .i64 x.k, .int .i64 x.f, .int .i64 x.t, .int .i64 x.u, .int .i64 x.e] 26)).cell h0
  have k1 := (Ext.alloc w (.cells #[.int .i64 x.c, .int .i64 x.i, .int .i64 x.k, .int .i64 x.f, .int .i64 x.t, .int .i64 x.u, .int .i64 x.e] 26)).cell h1
  have k2 := (Ext.alloc w (.cells #[.int .i64 x.c, .int .i64 x.i, .int .i64 x.k, .int .i64 x.f, .int .i64 x.t, .int .i64 x.u, .int .i64 x.e] 26)).cell h2
  have k3 := (Ext.alloc w (.cells #[.int .i64 x.c, .int .i64 x.i, .int .i64 x.k, .int .i64 x.f, .int .i64 x.t, .int .i64 x.u, .int .i64 x.e] 26)).cell h3
  have k4 := (Ext.alloc w (.cells #[.int .i64 x.c, .int .i64 x.i, .int .i64 x.k, .int .i64 x.f, .int .i64 x.t, .int .i64 x.u, .int .i64 x.e] 26)).cell h4
  have k5 := (Ext.alloc w (.cells #[.int .i64 x.c, .int .i64 x.i, .int .i64 x.k, .int .i64 x.f, .int .i64 x.t, .int .i64 x.u, .int .i64 x.e] 26)).cell h5
  have k6 := (Ext.alloc w (.cells #[.int .i64 x.c, .int .i64 x.i, .int .i64 x.k, .int .i64 x.f, .int .i64 x.t, .int .i64 x.u, .int .i64 x.e] 26)).cell h6
  have HC := Lib.hid (clash_any x q (w.alloc (.cells #[.int .i64 x.c, .int .i64 x.i, .int .i64 x.k, .int .i64 x.f, .int .i64 x.t, .int .i64 x.u, .int .i64 x.e] 26)))
  obtain ⟨r, hr⟩ : ∃ r, clashB x q = r := ⟨_, rfl⟩
  rw [hr] at HC ⊢
  clear hr
  go_enter Try.func52, Try.ntmps52
  go_wp2_with fail
  refine HC.out.mono ?_
  rintro e w2 ⟨rfl, hx2⟩
  have HX := Lib.hid (Ext.trans (Ext.alloc _ _) hx2)
  clear hx2
  go_wp2
  go_ret
  exact ⟨rfl, HX.out⟩

set_option maxRecDepth 100000 in
set_option maxHeartbeats 4000000 in
theorem ask1_any (x q : Le) (B : Nat) (w : World) (h0 : w.cell? ⟨B, 0, none⟩ = some (.int .i64 q.c)) (h1 : w.cell? ⟨B, 1, none⟩ = some (.int .i64 q.i)) (h2 : w.cell? ⟨B, 2, none⟩ = some (.int .i64 q.k)) (h3 : w.cell? ⟨B, 3, none⟩ = some (.int .i64 q.f)) (h4 : w.cell? ⟨B, 4, none⟩ = some (.int .i64 q.t)) (h5 : w.cell? ⟨B, 5, none⟩ = some (.int .i64 q.u)) (h6 : w.cell? ⟨B, 6, none⟩ = some (.int .i64 q.e)) : Calls Try.prog 35 #[.agg #[.int .i64 x.c, .int .i64 x.i, .int .i64 x.k, .int .i64 x.f, .int .i64 x.t, .int .i64 x.u, .int .i64 x.e], .pointer (some ⟨B, 0, none⟩)] w fun e w' => e = .returned (.bool (!sameB x q)) ∧ Ext w w' := by
  have k0 := (Ext.alloc w (.cells #[.int .i64 x.c, .int .i64 x.i, .int .i64 x.k, .int .i64 x.f, .int .i64 x.t, .int .i64 x.u, .int .i64 x.e] 26)).cell h0
  have k1 := (Ext.alloc w (.cells #[.int .i64 x.c, .int .i64 x.i, .int .i64 x.k, .int .i64 x.f, .int .i64 x.t, .int .i64 x.u, .int .i64 x.e] 26)).cell h1
  have k2 := (Ext.alloc w (.cells #[.int .i64 x.c, .int .i64 x.i, .int .i64 x.k, .int .i64 x.f, .int .i64 x.t, .int .i64 x.u, .int .i64 x.e] 26)).cell h2
  have k3 := (Ext.alloc w (.cells #[.int .i64 x.c, .int .i64 x.i, .int .i64 x.k, .int .i64 x.f, .int .i64 x.t, .int .i64 x.u, .int .i64 x.e] 26)).cell h3
  have k4 := (Ext.alloc w (.cells #[.int .i64 x.c, .int .i64 x.i, .int .i64 x.k, .int .i64 x.f, .int .i64 x.t, .int .i64 x.u, .int .i64 x.e] 26)).cell h4
  have k5 := (Ext.alloc w (.cells #[.int .i64 x.c, .int .i64 x.i, .int .i64 x.k, .int .i64 x.f, .int .i64 x.t, .int .i64 x.u, .int .i64 x.e] 26)).cell h5
  have k6 := (Ext.alloc w (.cells #[.int .i64 x.c, .int .i64 x.i, .int .i64 x.k, .int .i64 x.f, .int .i64 x.t, .int .i64 x.u, .int .i64 x.e] 26)).cell h6
  by_cases hc : x.c = q.c
  · have dc0 : (x.c != q.c) = false := by simp [hc]
    have Hc := Lib.hid hc
    clear hc
    by_cases hi : x.i = q.i
    · have di0 : (x.i != q.i) = false := by simp [hi]
      have Hi := Lib.hid hi
      clear hi
      by_cases hk : x.k = q.k
      · have dk0 : (x.k != q.k) = false := by simp [hk]
        have Hk := Lib.hid hk
        clear hk
        by_cases hf : x.f = q.f
        · have df0 : (x.f == q.f) = true := by simp [hf]
          have Hf := Lib.hid hf
          clear hf
          by_cases ht : x.t = q.t
          · have dt0 : (x.t == q.t) = true := by simp [ht]
            have Ht := Lib.hid ht
            clear ht
            have e : (!sameB x q) = false := by unfold sameB; rw [decide_eq_true ⟨Hc.out, Hi.out, Hk.out, Hf.out, Ht.out⟩]; rfl
            rw [e]
            clear e
            go_enter Try.func35, Try.ntmps35
            go_wp2
            go_ret
            exact ⟨rfl, Ext.alloc _ _⟩
          · have dt0 : (x.t == q.t) = false := by simp [ht]
            have Ht := Lib.hid ht
            clear ht
            have e : (!sameB x q) = true := by unfold sameB; rw [decide_eq_false (fun h => Ht.out h.2.2.2.2)]; rfl
            rw [e]
            clear e
            go_enter Try.func35, Try.ntmps35
            go_wp2
            go_ret
            exact ⟨rfl, Ext.alloc _ _⟩
        · have df0 : (x.f == q.f) = false := by simp [hf]
          have Hf := Lib.hid hf
          clear hf
          have e : (!sameB x q) = true := by unfold sameB; rw [decide_eq_false (fun h => Hf.out h.2.2.2.1)]; rfl
          rw [e]
          clear e
          go_enter Try.func35, Try.ntmps35
          go_wp2
          go_ret
          exact ⟨rfl, Ext.alloc _ _⟩
      · have dk0 : (x.k != q.k) = true := by simp [hk]
        have Hk := Lib.hid hk
        clear hk
        have e : (!sameB x q) = true := by unfold sameB; rw [decide_eq_false (fun h => Hk.out h.2.2.1)]; rfl
        rw [e]
        clear e
        go_enter Try.func35, Try.ntmps35
        go_wp2
        go_ret
        exact ⟨rfl, Ext.alloc _ _⟩
    · have di0 : (x.i != q.i) = true := by simp [hi]
      have Hi := Lib.hid hi
      clear hi
      have e : (!sameB x q) = true := by unfold sameB; rw [decide_eq_false (fun h => Hi.out h.2.1)]; rfl
      rw [e]
      clear e
      go_enter Try.func35, Try.ntmps35
      go_wp2
      go_ret
      exact ⟨rfl, Ext.alloc _ _⟩
  · have dc0 : (x.c != q.c) = true := by simp [hc]
    have Hc := Lib.hid hc
    clear hc
    have e : (!sameB x q) = true := by unfold sameB; rw [decide_eq_false (fun h => Hc.out h.1)]; rfl
    rw [e]
    clear e
    go_enter Try.func35, Try.ntmps35
    go_wp2
    go_ret
    exact ⟨rfl, Ext.alloc _ _⟩

set_option maxRecDepth 100000 in
set_option maxHeartbeats 4000000 in
theorem over_v (u : Value) (l : List Le) (now : Int) (w : World) (hu : LLe.Sl w u l) (hn : l.length ≤ 100000) :
    Calls Try.prog 17 #[u, .int .i64 now] w (RetLe (overL l now) w) := by
  have HX0 : Hid (Ext w (w.alloc (.cells #[.int .i64 now] 3))) := Lib.hid (by (unfold Ext; repeat (first | exact Below.refl _ _ | assumption | refine Below.drew ?_ | refine below_drewN ?_ _ | refine Below.alloc ?_ (by first | exact Nat.le_refl _ | (simp; done) | (simp; omega) | omega) _ | refine Below.setCell ?_ (by first | exact Nat.le_refl _ | (simp; done) | (simp; omega) | omega) _)))
  have HK := Lib.hid (keep_v 37 #[.pointer (some ⟨w.heap.size, 0, none⟩)] (fun x => decide (now < x.u)) u l (w.alloc (.cells #[.int .i64 now] 3)) (hu.ext HX0.out) hn (enters_of Try.func37 (by kernel_rfl) rfl) (fun x W' hW _ => over1_any x w.heap.size now W' (hW.cell (new_cell w _ _))))
  clear hu hn
  go_enter Try.func17, Try.ntmps17
  go_wp2_with fail
  (with_reducible refine HK.out.mono ?_)
  rintro e w2 ⟨⟨v, rfl, hown⟩, hx⟩
  have HO := Lib.hid (hown.base HX0.out.size)
  have HX := Lib.hid (Ext.trans HX0.out hx)
  clear hown hx
  go_wp2
  go_ret
  exact ⟨⟨_, rfl, HO.out⟩, HX.out⟩

set_option maxRecDepth 100000 in
set_option maxHeartbeats 4000000 in
theorem back_v (u : Value) (l : List Le) (c i : Int) (w : World) (hu : LLe.Sl w u l) (hn : l.length ≤ 100000) :
    Calls Try.prog 19 #[u, .int .i64 c, .int .i64 i] w (RetLe (backL l c i) w) := by
  have HX0 : Hid (Ext w ((w.alloc (.cells #[.int .i64 c] 3)).alloc (.cells #[.int .i64 i] 3))) := Lib.hid (by (unfold Ext; repeat (first | exact Below.refl _ _ | assumption | refine Below.drew ?_ | refine below_drewN ?_ _ | refine Below.alloc ?_ (by first | exact Nat.le_refl _ | (simp; done) | (simp; omega) | omega) _ | refine Below.setCell ?_ (by first | exact Nat.le_refl _ | (simp; done) | (simp; omega) | omega) _)))
  have HK := Lib.hid (keep_v 38 #[.pointer (some ⟨w.heap.size, 0, none⟩), .pointer (some ⟨w.heap.size + 1, 0, none⟩)] (fun x => !decide (x.c = c ∧ x.i = i)) u l ((w.alloc (.cells #[.int .i64 c] 3)).alloc (.cells #[.int .i64 i] 3)) (hu.ext HX0.out) hn (enters_of Try.func38 (by kernel_rfl) rfl) (fun x W' hW _ => back1_any x w.heap.size (w.heap.size + 1) c i W' (hW.cell ((Ext.alloc _ _).cell (new_cell w _ _))) (hW.cell (by simp))))
  clear hu hn
  go_enter Try.func19, Try.ntmps19
  go_wp2_with fail
  (with_reducible refine HK.out.mono ?_)
  rintro e w2 ⟨⟨v, rfl, hown⟩, hx⟩
  have HO := Lib.hid (hown.base HX0.out.size)
  have HX := Lib.hid (Ext.trans HX0.out hx)
  clear hown hx
  go_wp2
  go_ret
  exact ⟨⟨_, rfl, HO.out⟩, HX.out⟩

set_option maxRecDepth 100000 in
set_option maxHeartbeats 4000000 in
theorem clashing_v (u : Value) (l : List Le) (q : Le) (w : World) (hu : LLe.Sl w u l) (hn : l.length ≤ 100000) :
    Calls Try.prog 32 #[u, .agg #[.int .i64 q.c, .int .i64 q.i, .int .i64 q.k, .int .i64 q.f, .int .i64 q.t, .int .i64 q.u, .int .i64 q.e]] w (RetLe (againstL l q) w) := by
  have HX0 : Hid (Ext w (w.alloc (.cells #[.int .i64 q.c, .int .i64 q.i, .int .i64 q.k, .int .i64 q.f, .int .i64 q.t, .int .i64 q.u, .int .i64 q.e] 26))) := Lib.hid (by (unfold Ext; repeat (first | exact Below.refl _ _ | assumption | refine Below.drew ?_ | refine below_drewN ?_ _ | refine Below.alloc ?_ (by first | exact Nat.le_refl _ | (simp; done) | (simp; omega) | omega) _ | refine Below.setCell ?_ (by first | exact Nat.le_refl _ | (simp; done) | (simp; omega) | omega) _)))
  have HK := Lib.hid (keep_v 52 #[.pointer (some ⟨w.heap.size, 0, none⟩)] (fun x => clashB x q) u l (w.alloc (.cells #[.int .i64 q.c, .int .i64 q.i, .int .i64 q.k, .int .i64 q.f, .int .i64 q.t, .int .i64 q.u, .int .i64 q.e] 26)) (hu.ext HX0.out) hn (enters_of Try.func52 (by kernel_rfl) rfl) (fun x W' hW _ => (by obtain ⟨b0, b1, b2, b3, b4, b5, b6⟩ := box_cells w W' q _ hW; exact clash1_any x q w.heap.size W' b0 b1 b2 b3 b4 b5 b6)))
  clear hu hn
  go_enter Try.func32, Try.ntmps32
  go_wp2_with fail
  (with_reducible refine HK.out.mono ?_)
  rintro e w2 ⟨⟨v, rfl, hown⟩, hx⟩
  have HO := Lib.hid (hown.base HX0.out.size)
  have HX := Lib.hid (Ext.trans HX0.out hx)
  clear hown hx
  go_wp2
  go_ret
  exact ⟨⟨_, rfl, HO.out⟩, HX.out⟩
end Go.Proofs.Ytocnopgpdlfkjaa.Ls
