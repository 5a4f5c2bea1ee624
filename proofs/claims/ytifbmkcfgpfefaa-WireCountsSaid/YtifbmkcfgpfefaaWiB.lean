/- Messages: the reference's comparisons. -/
import Derived.Test.YtifbmkcfgpfefaaWiA
import Derived.Test.YtifbmkcfgpfefaaRepI
import Derived.Test.YtifbmkcfgpfefaaGrow
import Derived.Lib.Hide
namespace Go.Proofs.Ytifbmkcfgpfefaa.Wi
open Go.RowKit Go.Proofs.Ytifbmkcfgpfefaa
set_option linter.unusedVariables false

theorem nums_eq {xs ys : List Int} (h : xs.length = ys.length) (h2 : ∀ j, j < xs.length → at0 xs j = at0 ys j) : xs = ys := by
  apply List.ext_getElem h
  intro j hj hj2
  have := h2 j hj
  simpa [at0, List.getD_eq_getElem?_getD, hj, hj2] using this
def RNumsR (w2 : World) (l k : List Int) (n : Nat) (i : Value) (wr : World) : Prop :=
  ∃ j : Nat, i = .int .i64 j ∧ j ≤ n ∧ Hid (∀ s, s < j → at0 l s = at0 k s) ∧ Ext w2 wr
set_option maxRecDepth 100000 in
theorem rbytes_any (l k : List Int) (p q : Option Addr) (n c m d : Nat) (w : World) (hl : (Lay.int .u8).Row w p n l) (hk : (Lay.int .u8).Row w q m k) :
    Calls Try.prog 30 #[.slice p n c, .slice q m d] w fun e w' => e = .returned (.bool (decide (l = k))) ∧ Ext w w' := by
  by_cases hnm : n = m
  · subst hnm
    have HP := Lib.hid hl.ints.1
    have HQ := Lib.hid hk.ints.1
    have hn := hl.2.1
    have hb : ((n : Int) != (n : Int)) = false := by simp
    clear hl hk
    go_enter Try.func30, Try.ntmps30
    go_wp2
    go_loopw [5] (fun i wr => RNumsR w l k n i wr) (fun i _ => n - (intOf i).toNat)
    case atStart => exact ⟨0, rfl, by omega, Lib.hid (by intro j hj; omega), Ext.refl _⟩
    case round =>
      obtain ⟨j, rfl, hj, HE, hx⟩ := hrel
      by_cases hlt : j < n
      · obtain ⟨b, off, rfl, hc⟩ := HP.out.2.2 (by omega)
        obtain ⟨b2, off2, rfl, hc2⟩ := HQ.out.2.2 (by omega)
        have hlt' : (j : Int) < (n : Int) := by omega
        have hlt0 : (0 : Int) ≤ (j : Int) := by omega
        have cx := hx.cell (hc j hlt)
        have cy := hx.cell (hc2 j hlt)
        clear hc hc2
        by_cases he : at0 l j = at0 k j
        · have hb : (at0 l j != at0 k j) = false := by simp [he]
          have HE1 := Lib.hid he
          clear he
          go_wp2
          go_quiet (fail)
          go_wp2
          go_roundw
          case rel => exact ⟨j + 1, by go_num, by omega, Lib.hid (fun s hs => by
            by_cases e : s = j
            · subst e; exact HE1.out
            · exact HE.out s (by omega)), Ext.drewN hx _⟩
          case measure => simp [intOf]; omega
        · have hb : (at0 l j != at0 k j) = true := by simp [he]
          have HE1 := Lib.hid he
          clear he
          go_wp2
          go_quiet (fail)
          go_wp2
          go_ret
          exact ⟨ret_bool (decide_eq_false (fun h => HE1.out (by rw [h]))).symm, Ext.drewN hx _⟩
      · obtain rfl : j = n := by omega
        go_wp2
        go_ret
        exact ⟨ret_bool (decide_eq_true (nums_eq (by rw [HP.out.1, HQ.out.1]) (fun s hs => HE.out s (by rw [HP.out.1] at hs; exact hs)))).symm, hx⟩
  · have hb : ((n : Int) != (m : Int)) = true := by simp; omega
    have hf : decide (l = k) = false := decide_eq_false (fun e => hnm (by rw [← hl.1, ← hk.1, e]))
    rw [hf]
    clear hl hk hf
    go_enter Try.func30, Try.ntmps30
    go_wp2
    go_ret
    exact ⟨rfl, Ext.refl _⟩
set_option maxRecDepth 100000 in
theorem rints_any (l k : List Int) (p q : Option Addr) (n c m d : Nat) (w : World) (hl : (Lay.int .i64).Row w p n l) (hk : (Lay.int .i64).Row w q m k) :
    Calls Try.prog 17 #[.slice p n c, .slice q m d] w fun e w' => e = .returned (.bool (decide (l = k))) ∧ Ext w w' := by
  by_cases hnm : n = m
  · subst hnm
    have HP := Lib.hid hl.ints.1
    have HQ := Lib.hid hk.ints.1
    have hn := hl.2.1
    have hb : ((n : Int) != (n : Int)) = false := by simp
    clear hl hk
    go_enter Try.func17, Try.ntmps17
    go_wp2
    go_loopw [5] (fun i wr => RNumsR w l k n i wr) (fun i _ => n - (intOf i).toNat)
    case atStart => exact ⟨0, rfl, by omega, Lib.hid (by intro j hj; omega), Ext.refl _⟩
    case round =>
      obtain ⟨j, rfl, hj, HE, hx⟩ := hrel
      by_cases hlt : j < n
      · obtain ⟨b, off, rfl, hc⟩ := HP.out.2.2 (by omega)
        obtain ⟨b2, off2, rfl, hc2⟩ := HQ.out.2.2 (by omega)
        have hlt' : (j : Int) < (n : Int) := by omega
        have hlt0 : (0 : Int) ≤ (j : Int) := by omega
        have cx := hx.cell (hc j hlt)
        have cy := hx.cell (hc2 j hlt)
        clear hc hc2
        by_cases he : at0 l j = at0 k j
        · have hb : (at0 l j != at0 k j) = false := by simp [he]
          have HE1 := Lib.hid he
          clear he
          go_wp2
          go_quiet (fail)
          go_wp2
          go_roundw
          case rel => exact ⟨j + 1, by go_num, by omega, Lib.hid (fun s hs => by
            by_cases e : s = j
            · subst e; exact HE1.out
            · exact HE.out s (by omega)), Ext.drewN hx _⟩
          case measure => simp [intOf]; omega
        · have hb : (at0 l j != at0 k j) = true := by simp [he]
          have HE1 := Lib.hid he
          clear he
          go_wp2
          go_quiet (fail)
          go_wp2
          go_ret
          exact ⟨ret_bool (decide_eq_false (fun h => HE1.out (by rw [h]))).symm, Ext.drewN hx _⟩
      · obtain rfl : j = n := by omega
        go_wp2
        go_ret
        exact ⟨ret_bool (decide_eq_true (nums_eq (by rw [HP.out.1, HQ.out.1]) (fun s hs => HE.out s (by rw [HP.out.1] at hs; exact hs)))).symm, hx⟩
  · have hb : ((n : Int) != (m : Int)) = true := by simp; omega
    have hf : decide (l = k) = false := decide_eq_false (fun e => hnm (by rw [← hl.1, ← hk.1, e]))
    rw [hf]
    clear hl hk hf
    go_enter Try.func17, Try.ntmps17
    go_wp2
    go_ret
    exact ⟨rfl, Ext.refl _⟩

/-- are two messages alike -/
theorem mg_ext {x y : Mg} (h1 : x.a = y.a) (h2 : x.b = y.b) (h3 : x.k = y.k) (h4 : x.n = y.n) (h5 : x.d = y.d) : x = y := by
  cases x; cases y; simp only at h1 h2 h3 h4 h5; rw [h1, h2, h3, h4, h5]
set_option maxRecDepth 100000 in
set_option maxHeartbeats 1000000 in
theorem rsame1_any (x y : Mg) (p1 : Option Addr) (n1 c1 : Nat) (q1 : Option Addr) (m1 d1 : Nat) (p2 : Option Addr) (n2 c2 : Nat) (q2 : Option Addr) (m2 d2 : Nat) (w : World) (hx : MgC w x p1 n1 c1 q1 m1 d1) (hy : MgC w y p2 n2 c2 q2 m2 d2) :
    Calls Try.prog 16 #[.agg #[.int .i64 x.a, .int .i64 x.b, .int .i64 x.k, .slice p1 n1 c1, .slice q1 m1 d1], .agg #[.int .i64 y.a, .int .i64 y.b, .int .i64 y.k, .slice p2 n2 c2, .slice q2 m2 d2]] w fun e w' => e = .returned (.bool (decide (x = y))) ∧ Ext w w' := by
  have hxA : Ext w ((w.alloc (.cells #[.int .i64 x.a, .int .i64 x.b, .int .i64 x.k, .slice p1 n1 c1, .slice q1 m1 d1] 26)).alloc (.cells #[.int .i64 y.a, .int .i64 y.b, .int .i64 y.k, .slice p2 n2 c2, .slice q2 m2 d2] 26)) := Ext.trans (Ext.alloc _ _) (Ext.alloc _ _)
  have HXA := Lib.hid hxA
  have g5 := box5 (Ext.alloc (w.alloc (.cells #[.int .i64 x.a, .int .i64 x.b, .int .i64 x.k, .slice p1 n1 c1, .slice q1 m1 d1] 26)) (.cells #[.int .i64 y.a, .int .i64 y.b, .int .i64 y.k, .slice p2 n2 c2, .slice q2 m2 d2] 26))
  have h5 := box5 (Ext.refl ((w.alloc (.cells #[.int .i64 x.a, .int .i64 x.b, .int .i64 x.k, .slice p1 n1 c1, .slice q1 m1 d1] 26)).alloc (.cells #[.int .i64 y.a, .int .i64 y.b, .int .i64 y.k, .slice p2 n2 c2, .slice q2 m2 d2] 26)))
  simp only [World.size_alloc] at h5
  have HS : Hid (∀ w', Ext ((w.alloc (.cells #[.int .i64 x.a, .int .i64 x.b, .int .i64 x.k, .slice p1 n1 c1, .slice q1 m1 d1] 26)).alloc (.cells #[.int .i64 y.a, .int .i64 y.b, .int .i64 y.k, .slice p2 n2 c2, .slice q2 m2 d2] 26)) w' → w'.cell? ⟨w.heap.size, 4, none⟩ = some (.slice q1 m1 d1) ∧ w'.cell? ⟨w.heap.size + 1, 4, none⟩ = some (.slice q2 m2 d2)) := Lib.hid fun w' h => ⟨h.cell g5.2.2.2.2, h.cell h5.2.2.2.2⟩
  have HI := Lib.hid (rints_any x.n y.n p1 p2 n1 c1 n2 c2 ((w.alloc (.cells #[.int .i64 x.a, .int .i64 x.b, .int .i64 x.k, .slice p1 n1 c1, .slice q1 m1 d1] 26)).alloc (.cells #[.int .i64 y.a, .int .i64 y.b, .int .i64 y.k, .slice p2 n2 c2, .slice q2 m2 d2] 26)) (hx.nr.ext hxA) (hy.nr.ext hxA))
  have HBY : Hid (∀ W, Ext ((w.alloc (.cells #[.int .i64 x.a, .int .i64 x.b, .int .i64 x.k, .slice p1 n1 c1, .slice q1 m1 d1] 26)).alloc (.cells #[.int .i64 y.a, .int .i64 y.b, .int .i64 y.k, .slice p2 n2 c2, .slice q2 m2 d2] 26)) W → Calls Try.prog 30 #[.slice q1 m1 d1, .slice q2 m2 d2] W fun e w' => e = .returned (.bool (decide (x.d = y.d))) ∧ Ext W w') := Lib.hid fun W hW => rbytes_any x.d y.d q1 q2 m1 d1 m2 d2 W (hx.dr.ext (Ext.trans hxA hW)) (hy.dr.ext (Ext.trans hxA hW))
  clear hx hy hxA g5 h5
  by_cases h1 : x.a = y.a
  · have b1 : (x.a == y.a) = true := by simp [h1]
    by_cases h2 : x.b = y.b
    · have b2 : (x.b == y.b) = true := by simp [h2]
      by_cases h3 : x.k = y.k
      · have b3 : (x.k == y.k) = true := by simp [h3]
        have H1 := Lib.hid h1
        have H2 := Lib.hid h2
        have H3 := Lib.hid h3
        clear h1 h2 h3
        by_cases h4 : x.n = y.n
        · rw [decide_eq_true h4] at HI
          have H4 := Lib.hid h4
          clear h4
          go_enter Try.func16, Try.ntmps16
          go_wp2_with fail
          refine HI.out.mono ?_
          rintro e w2 ⟨rfl, hx2⟩
          obtain ⟨e1, e2⟩ := HS.out _ hx2
          go_wp2_with fail
          refine (HBY.out _ hx2).mono ?_
          rintro e w3 ⟨rfl, hx3⟩
          have hd : decide (x.d = y.d) = decide (x = y) := decide_eq_decide.2 ⟨fun h => mg_ext H1.out H2.out H3.out H4.out h, fun h => by rw [h]⟩
          rw [hd]
          clear hd
          go_wp2
          go_ret
          exact ⟨rfl, Ext.trans HXA.out (Ext.trans hx2 hx3)⟩
        · rw [decide_eq_false h4] at HI
          have hd : decide (x = y) = false := decide_eq_false (fun h => h4 (by rw [h]))
          rw [hd]
          clear h4 hd
          go_enter Try.func16, Try.ntmps16
          go_wp2_with fail
          refine HI.out.mono ?_
          rintro e w2 ⟨rfl, hx2⟩
          go_wp2
          go_ret
          exact ⟨rfl, Ext.trans HXA.out hx2⟩
      · have b3 : (x.k == y.k) = false := by simp [h3]
        have hd : decide (x = y) = false := decide_eq_false (fun h => h3 (by rw [h]))
        rw [hd]
        clear h1 h2 h3 hd
        go_enter Try.func16, Try.ntmps16
        go_wp2
        go_ret
        exact ⟨rfl, HXA.out⟩
    · have b2 : (x.b == y.b) = false := by simp [h2]
      have hd : decide (x = y) = false := decide_eq_false (fun h => h2 (by rw [h]))
      rw [hd]
      clear h1 h2 hd
      go_enter Try.func16, Try.ntmps16
      go_wp2
      go_ret
      exact ⟨rfl, HXA.out⟩
  · have b1 : (x.a == y.a) = false := by simp [h1]
    have hd : decide (x = y) = false := decide_eq_false (fun h => h1 (by rw [h]))
    rw [hd]
    clear h1 hd
    go_enter Try.func16, Try.ntmps16
    go_wp2
    go_ret
    exact ⟨rfl, HXA.out⟩

def RSameAllR (w : World) (l k : List Mg) (n : Nat) (i : Value) (wr : World) : Prop :=
  ∃ j : Nat, i = .int .i64 j ∧ j ≤ n ∧ Hid (∀ s, s < j → l[s]? = k[s]?) ∧ Ext w wr
set_option maxRecDepth 100000 in
set_option maxHeartbeats 1000000 in
theorem rsame_any (p q : Option Addr) (n c m d : Nat) (l k : List Mg) (w : World) (hl : LMg.Row w p n l) (hk : LMg.Row w q m k) :
    Calls Try.prog 13 #[.slice p n c, .slice q m d] w fun e w' => e = .returned (.bool (decide (l = k))) ∧ Ext w w' := by
  have HP := Lib.hid hl
  have HQ := Lib.hid hk
  have hn := hl.2.1
  by_cases hnm : n = m
  · subst hnm
    have hb : ((n : Int) != (n : Int)) = false := by simp
    clear hl hk
    go_enter Try.func13, Try.ntmps13
    go_wp2
    go_loopw [5] (fun i wr => RSameAllR w l k n i wr) (fun i _ => n - (intOf i).toNat)
    case atStart => exact ⟨0, rfl, by omega, Lib.hid (by intro j hj; omega), Ext.refl _⟩
    case round =>
      obtain ⟨j, rfl, hj, HE, hx⟩ := hrel
      by_cases hlt : j < n
      · have hlt' : (j : Int) < (n : Int) := by omega
        have hlt0 : (0 : Int) ≤ (j : Int) := by omega
        obtain ⟨x, gx⟩ : ∃ x, l[j]? = some x := ⟨_, List.getElem?_eq_getElem (by rw [HP.out.1]; exact hlt)⟩
        obtain ⟨y, gy⟩ : ∃ y, k[j]? = some y := ⟨_, List.getElem?_eq_getElem (by rw [HQ.out.1]; exact hlt)⟩
        obtain ⟨b, off, p1, n1, c1, q1, m1, d1, rfl, x0, x1, x2, x3, x4, tx⟩ := mg_at (HP.out.ext hx) gx
        obtain ⟨b2, off2, p2, n2, c2, q2, m2, d2, rfl, y0, y1, y2, y3, y4, ty⟩ := mg_at (HQ.out.ext hx) gy
        have hsm : ∀ W, Ext wr W → Calls Try.prog 16 #[.agg #[.int .i64 x.a, .int .i64 x.b, .int .i64 x.k, .slice p1 n1 c1, .slice q1 m1 d1], .agg #[.int .i64 y.a, .int .i64 y.b, .int .i64 y.k, .slice p2 n2 c2, .slice q2 m2 d2]] W fun e w' => e = .returned (.bool (decide (x = y))) ∧ Ext W w' := fun W hW => rsame1_any x y p1 n1 c1 q1 m1 d1 p2 n2 c2 q2 m2 d2 W (tx.ext hW) (ty.ext hW)
        have GX := Lib.hid gx
        have GY := Lib.hid gy
        have HX := Lib.hid hx
        have e0 : ∀ g : Gr wr, g.w.cell? ⟨b, off + j * 5, none⟩ = some (.int .i64 x.a) := fun g => g.cell x0
        have e1 : ∀ g : Gr wr, g.w.cell? ⟨b, off + j * 5 + 1, none⟩ = some (.int .i64 x.b) := fun g => g.cell x1
        have e2 : ∀ g : Gr wr, g.w.cell? ⟨b, off + j * 5 + 2, none⟩ = some (.int .i64 x.k) := fun g => g.cell x2
        have e3 : ∀ g : Gr wr, g.w.cell? ⟨b, off + j * 5 + 3, none⟩ = some (.slice p1 n1 c1) := fun g => g.cell x3
        have e4 : ∀ g : Gr wr, g.w.cell? ⟨b, off + j * 5 + 4, none⟩ = some (.slice q1 m1 d1) := fun g => g.cell x4
        have f0 : ∀ g : Gr wr, g.w.cell? ⟨b2, off2 + j * 5, none⟩ = some (.int .i64 y.a) := fun g => g.cell y0
        have f1 : ∀ g : Gr wr, g.w.cell? ⟨b2, off2 + j * 5 + 1, none⟩ = some (.int .i64 y.b) := fun g => g.cell y1
        have f2 : ∀ g : Gr wr, g.w.cell? ⟨b2, off2 + j * 5 + 2, none⟩ = some (.int .i64 y.k) := fun g => g.cell y2
        have f3 : ∀ g : Gr wr, g.w.cell? ⟨b2, off2 + j * 5 + 3, none⟩ = some (.slice p2 n2 c2) := fun g => g.cell y3
        have f4 : ∀ g : Gr wr, g.w.cell? ⟨b2, off2 + j * 5 + 4, none⟩ = some (.slice q2 m2 d2) := fun g => g.cell y4
        clear tx ty gx gy x0 x1 x2 x3 x4 y0 y1 y2 y3 y4 hx
        by_cases h1 : x = y
        · have H1 := Lib.hid h1
          rw [decide_eq_true h1] at hsm
          have HSM := Lib.hid hsm
          clear hsm h1
          go_wp2
          refine wp_region_grown (Ext.refl wr) (by kernel_rfl) (by kernel_rfl) ?_
          repeat (go_big_quiet_step (first | (go_at_call 16; with_reducible exact Gr.of (HSM.out _ (Gr.h _)))))
          refine wpQuiet_nil ?_
          intro gw
          go_wp2
          go_roundw
          case rel => exact ⟨j + 1, by go_num, by omega, Lib.hid (fun s hs => by
            by_cases e : s = j
            · subst e; rw [GX.out, GY.out, H1.out]
            · exact HE.out s (by omega)), Ext.trans HX.out gw.h⟩
          case measure => simp [intOf]; omega
        · have H1 := Lib.hid h1
          rw [decide_eq_false h1] at hsm
          have HSM := Lib.hid hsm
          clear hsm h1
          go_wp2
          refine wp_region_grown (Ext.refl wr) (by kernel_rfl) (by kernel_rfl) ?_
          repeat (go_big_quiet_step (first | (go_at_call 16; with_reducible exact Gr.of (HSM.out _ (Gr.h _)))))
          refine wpQuiet_nil ?_
          intro gw
          go_wp2
          go_ret
          exact ⟨ret_bool (decide_eq_false (fun h => H1.out (by have h1 := GX.out; have h2 := GY.out; rw [h, h2] at h1; exact (Option.some.inj h1).symm))).symm, Ext.trans HX.out gw.h⟩
      · obtain rfl : j = n := by omega
        go_wp2
        go_ret
        exact ⟨ret_bool (decide_eq_true (List.ext_getElem? (fun s => by
          by_cases hs : s < j
          · exact HE.out s hs
          · rw [List.getElem?_eq_none (by rw [HP.out.1]; omega), List.getElem?_eq_none (by rw [HQ.out.1]; omega)]))).symm, hx⟩
  · have hb : ((n : Int) != (m : Int)) = true := by simp; omega
    have hf : decide (l = k) = false := decide_eq_false (fun e => hnm (by rw [← hl.1, ← hk.1, e]))
    rw [hf]
    clear hl hk hf
    go_enter Try.func13, Try.ntmps13
    go_wp2
    go_ret
    exact ⟨rfl, Ext.refl _⟩

/-- how often a message is there -/
def manyL (l : List Mg) (y : Mg) : Nat := (l.filter (fun x => decide (x = y))).length
theorem many_append (l k : List Mg) (y : Mg) : manyL (l ++ k) y = manyL l y + manyL k y := by unfold manyL; simp
theorem many_one (x y : Mg) : manyL [x] y = if x = y then 1 else 0 := by unfold manyL; by_cases h : x = y <;> simp [h]
theorem many_le (l : List Mg) (y : Mg) : manyL l y ≤ l.length := List.length_filter_le _ _
theorem many_step {l : List Mg} {j : Nat} {x : Mg} (h : l[j]? = some x) (y : Mg) : manyL (l.take (j + 1)) y = manyL (l.take j) y + if x = y then 1 else 0 := by
  rw [List.take_add_one, h]
  show manyL (l.take j ++ [x]) y = _
  rw [many_append, many_one]
def RManyR (WA : World) (l : List Mg) (y : Mg) (n : Nat) (o i : Value) (wr : World) : Prop :=
  ∃ j : Nat, i = .int .i64 j ∧ j ≤ n ∧ o = .int .i64 (manyL (l.take j) y : Int) ∧ Ext WA wr
set_option maxRecDepth 100000 in
set_option maxHeartbeats 1000000 in
theorem rmany_any (p : Option Addr) (n c : Nat) (l : List Mg) (y : Mg) (p2 : Option Addr) (n2 c2 : Nat) (q2 : Option Addr) (m2 d2 : Nat) (w : World) (hl : LMg.Row w p n l) (hy : MgC w y p2 n2 c2 q2 m2 d2) (hb : n ≤ 100000) :
    Calls Try.prog 22 #[.slice p n c, .agg #[.int .i64 y.a, .int .i64 y.b, .int .i64 y.k, .slice p2 n2 c2, .slice q2 m2 d2]] w fun e w' => e = .returned (.int .i64 (manyL l y : Int)) ∧ Ext w w' := by
  have HP := Lib.hid hl
  have HY := Lib.hid hy
  have hn := hl.2.1
  have HXA : Hid (Ext w (w.alloc (.cells #[.int .i64 y.a, .int .i64 y.b, .int .i64 y.k, .slice p2 n2 c2, .slice q2 m2 d2] 26))) := Lib.hid (Ext.alloc _ _)
  have HNB := Lib.hid hb
  clear hl hy
  go_enter Try.func22, Try.ntmps22
  go_wp2
  go_loopw [5, 6] (fun o i wr => RManyR (w.alloc (.cells #[.int .i64 y.a, .int .i64 y.b, .int .i64 y.k, .slice p2 n2 c2, .slice q2 m2 d2] 26)) l y n o i wr) (fun _ i _ => n - (intOf i).toNat)
  case atStart => exact ⟨0, rfl, by omega, rfl, Ext.refl _⟩
  case round =>
    obtain ⟨j, rfl, hj, rfl, hx⟩ := hrel
    have HX := Lib.hid hx
    by_cases hlt : j < n
    · have hlt' : (j : Int) < (n : Int) := by omega
      have hlt0 : (0 : Int) ≤ (j : Int) := by omega
      obtain ⟨x, gx⟩ : ∃ x, l[j]? = some x := ⟨_, List.getElem?_eq_getElem (by rw [HP.out.1]; exact hlt)⟩
      obtain ⟨b, off, p1, n1, c1, q1, m1, d1, rfl, x0, x1, x2, x3, x4, tx⟩ := mg_at (HP.out.ext (Ext.trans HXA.out hx)) gx
      have hsm : ∀ W, Ext wr W → Calls Try.prog 16 #[.agg #[.int .i64 x.a, .int .i64 x.b, .int .i64 x.k, .slice p1 n1 c1, .slice q1 m1 d1], .agg #[.int .i64 y.a, .int .i64 y.b, .int .i64 y.k, .slice p2 n2 c2, .slice q2 m2 d2]] W fun e w' => e = .returned (.bool (decide (x = y))) ∧ Ext W w' := fun W hW => rsame1_any x y p1 n1 c1 q1 m1 d1 p2 n2 c2 q2 m2 d2 W (tx.ext hW) (HY.out.ext (Ext.trans HXA.out (Ext.trans HX.out hW)))
      have hst := many_step gx y
      obtain ⟨K, hK⟩ : ∃ K, manyL (l.take j) y = K := ⟨_, rfl⟩
      have hKb : K ≤ 100000 := by have h1 := many_le (l.take j) y; rw [List.length_take] at h1; have := HNB.out; omega
      rw [hK] at hst ⊢
      have HST := Lib.hid hst
      have e0 : ∀ g : Gr wr, g.w.cell? ⟨b, off + j * 5, none⟩ = some (.int .i64 x.a) := fun g => g.cell x0
      have e1 : ∀ g : Gr wr, g.w.cell? ⟨b, off + j * 5 + 1, none⟩ = some (.int .i64 x.b) := fun g => g.cell x1
      have e2 : ∀ g : Gr wr, g.w.cell? ⟨b, off + j * 5 + 2, none⟩ = some (.int .i64 x.k) := fun g => g.cell x2
      have e3 : ∀ g : Gr wr, g.w.cell? ⟨b, off + j * 5 + 3, none⟩ = some (.slice p1 n1 c1) := fun g => g.cell x3
      have e4 : ∀ g : Gr wr, g.w.cell? ⟨b, off + j * 5 + 4, none⟩ = some (.slice q1 m1 d1) := fun g => g.cell x4
      have f0 : ∀ g : Gr wr, g.w.cell? ⟨w.heap.size, 0, none⟩ = some (.int .i64 y.a) := fun g => g.cell (box5 HX.out).1
      have f1 : ∀ g : Gr wr, g.w.cell? ⟨w.heap.size, 1, none⟩ = some (.int .i64 y.b) := fun g => g.cell (box5 HX.out).2.1
      have f2 : ∀ g : Gr wr, g.w.cell? ⟨w.heap.size, 2, none⟩ = some (.int .i64 y.k) := fun g => g.cell (box5 HX.out).2.2.1
      have f3 : ∀ g : Gr wr, g.w.cell? ⟨w.heap.size, 3, none⟩ = some (.slice p2 n2 c2) := fun g => g.cell (box5 HX.out).2.2.2.1
      have f4 : ∀ g : Gr wr, g.w.cell? ⟨w.heap.size, 4, none⟩ = some (.slice q2 m2 d2) := fun g => g.cell (box5 HX.out).2.2.2.2
      clear tx gx x0 x1 x2 x3 x4 hx hst hK
      by_cases h1 : x = y
      · have H1 := Lib.hid h1
        rw [decide_eq_true h1] at hsm
        have HSM := Lib.hid hsm
        clear hsm h1
        go_wp2
        refine wp_region_grown (Ext.refl wr) (by kernel_rfl) (by kernel_rfl) ?_
        repeat (go_big_quiet_step (first | (go_at_call 16; with_reducible exact Gr.of (HSM.out _ (Gr.h _)))))
        refine wpQuiet_nil ?_
        intro gw
        go_wp2
        go_roundw
        case rel => exact ⟨j + 1, by go_num, by omega, by rw [HST.out, if_pos H1.out]; go_num, Ext.trans HX.out gw.h⟩
        case measure => simp [intOf]; omega
      · have H1 := Lib.hid h1
        rw [decide_eq_false h1] at hsm
        have HSM := Lib.hid hsm
        clear hsm h1
        go_wp2
        refine wp_region_grown (Ext.refl wr) (by kernel_rfl) (by kernel_rfl) ?_
        repeat (go_big_quiet_step (first | (go_at_call 16; with_reducible exact Gr.of (HSM.out _ (Gr.h _)))))
        refine wpQuiet_nil ?_
        intro gw
        go_wp2
        go_roundw
        case rel => exact ⟨j + 1, by go_num, by omega, by rw [HST.out, if_neg H1.out]; rfl, Ext.trans HX.out gw.h⟩
        case measure => simp [intOf]; omega
    · obtain rfl : j = n := by omega
      rw [List.take_of_length_le (by rw [HP.out.1]; omega)]
      go_wp2
      go_ret
      exact ⟨rfl, Ext.trans HXA.out HX.out⟩

/-- is a number one of some -/
def inB (l : List Int) (m : Int) : Bool := decide (m ∈ l)
def RInR (w : World) (l : List Int) (m : Int) (n : Nat) (i : Value) (wr : World) : Prop :=
  ∃ j : Nat, i = .int .i64 j ∧ j ≤ n ∧ Hid (∀ s, s < j → at0 l s ≠ m) ∧ wr = w
theorem in_yes {l : List Int} {m : Int} {j : Nat} (hj : j < l.length) (h : at0 l j = m) : inB l m = true := by
  refine decide_eq_true ?_
  have e : at0 l j = l[j] := by simp [at0, List.getD_eq_getElem?_getD, hj]
  rw [← h, e]; exact List.getElem_mem hj
theorem in_no {l : List Int} {m : Int} (h : ∀ s, s < l.length → at0 l s ≠ m) : inB l m = false := by
  refine decide_eq_false (fun hm => ?_)
  obtain ⟨s, hs, e⟩ := List.mem_iff_getElem.1 hm
  exact h s hs (by rw [← e]; simp [at0, List.getD_eq_getElem?_getD, hs])
set_option maxRecDepth 100000 in
theorem rin_any (p : Option Addr) (n c : Nat) (l : List Int) (m : Int) (w : World) (hl : (Lay.int .i64).Row w p n l) :
    Calls Try.prog 23 #[.slice p n c, .int .i64 m] w fun e w' => e = .returned (.bool (inB l m)) ∧ w' = w := by
  have HP := Lib.hid hl.ints.1
  have hn := hl.2.1
  clear hl
  go_enter Try.func23, Try.ntmps23
  go_wp2
  go_loopw [5] (fun i wr => RInR w l m n i wr) (fun i _ => n - (intOf i).toNat)
  case atStart => exact ⟨0, rfl, by omega, Lib.hid (by intro j hj; omega), rfl⟩
  case round =>
    obtain ⟨j, rfl, hj, HE, rfl⟩ := hrel
    by_cases hlt : j < n
    · obtain ⟨b, off, rfl, hc⟩ := HP.out.2.2 (by omega)
      have hlt' : (j : Int) < (n : Int) := by omega
      have hlt0 : (0 : Int) ≤ (j : Int) := by omega
      have cx := hc j hlt
      clear hc
      by_cases he : at0 l j = m
      · have hb : (at0 l j == m) = true := by simp [he]
        have HE1 := Lib.hid he
        clear he
        go_wp2
        go_ret
        exact ⟨ret_bool (in_yes (by rw [HP.out.1]; exact hlt) HE1.out).symm, rfl⟩
      · have hb : (at0 l j == m) = false := by simp [he]
        have HE1 := Lib.hid he
        clear he
        go_wp2
        go_roundw
        case rel => exact ⟨j + 1, by go_num, by omega, Lib.hid (fun s hs => by
          by_cases e : s = j
          · subst e; exact HE1.out
          · exact HE.out s (by omega)), rfl⟩
        case measure => simp [intOf]; omega
    · obtain rfl : j = n := by omega
      go_wp2
      go_ret
      exact ⟨ret_bool (in_no (fun s hs => HE.out s (by rw [HP.out.1] at hs; exact hs))).symm, rfl⟩

/-- messages that are not too many, nor too great -/
def Small (l : List Mg) : Prop := l.length ≤ 220 ∧ ∀ x ∈ l, x.n.length ≤ 20 ∧ x.d.length ≤ 100
def RetGreat (l : List Mg) (e : Ending) : Prop := ∃ b, e = .returned (.bool b) ∧ (b = false ↔ Small l)
def RGreatR (w : World) (l : List Mg) (n : Nat) (i : Value) (wr : World) : Prop :=
  ∃ j : Nat, i = .int .i64 j ∧ j ≤ n ∧ Hid (∀ (s : Nat) (x : Mg), s < j → l[s]? = some x → x.n.length ≤ 20 ∧ x.d.length ≤ 100) ∧ wr = w
set_option maxRecDepth 100000 in
set_option maxHeartbeats 1000000 in
theorem great_any (p : Option Addr) (n c : Nat) (l : List Mg) (w : World) (hl : LMg.Row w p n l) :
    Calls Try.prog 10 #[.slice p n c] w fun e w' => RetGreat l e ∧ w' = w := by
  have HP := Lib.hid hl
  have hn := hl.2.1
  by_cases hb : 220 < n
  · have hb' : (220 : Int) < (n : Int) := by omega
    clear hl
    go_enter Try.func10, Try.ntmps10
    go_wp2
    go_ret
    exact ⟨⟨_, rfl, fun h => (by cases h), fun h => by have := h.1; rw [HP.out.1] at this; omega⟩, rfl⟩
  · have hb' : ¬ (220 : Int) < (n : Int) := by omega
    clear hl
    go_enter Try.func10, Try.ntmps10
    go_wp2
    go_loopw [3] (fun i wr => RGreatR w l n i wr) (fun i _ => n - (intOf i).toNat)
    case atStart => exact ⟨0, rfl, by omega, Lib.hid (by intro j x hj; omega), rfl⟩
    case round =>
      obtain ⟨j, rfl, hj, HE, rfl⟩ := hrel
      by_cases hlt : j < n
      · have hlt' : (j : Int) < (n : Int) := by omega
        have hlt0 : (0 : Int) ≤ (j : Int) := by omega
        obtain ⟨x, gx⟩ : ∃ x, l[j]? = some x := ⟨_, List.getElem?_eq_getElem (by rw [HP.out.1]; exact hlt)⟩
        obtain ⟨b, off, p1, n1, c1, q1, m1, d1, rfl, x0, x1, x2, x3, x4, tx⟩ := mg_at HP.out gx
        have GX := Lib.hid gx
        have HN1 := Lib.hid tx.nr.1
        have HD1 := Lib.hid tx.dr.1
        clear gx tx
        by_cases h1 : 20 < n1
        · have h1' : (20 : Int) < (n1 : Int) := by omega
          go_wp2
          go_ret
          exact ⟨⟨_, rfl, fun h => (by cases h), fun h => by have := (h.2 x (List.mem_of_getElem? GX.out)).1; rw [HN1.out] at this; omega⟩, rfl⟩
        · have h1' : ¬ (20 : Int) < (n1 : Int) := by omega
          by_cases h2 : 100 < m1
          · have h2' : (100 : Int) < (m1 : Int) := by omega
            go_wp2
            go_ret
            exact ⟨⟨_, rfl, fun h => (by cases h), fun h => by have := (h.2 x (List.mem_of_getElem? GX.out)).2; rw [HD1.out] at this; omega⟩, rfl⟩
          · have h2' : ¬ (100 : Int) < (m1 : Int) := by omega
            go_wp2
            go_roundw
            case rel => exact ⟨j + 1, by go_num, by omega, Lib.hid (fun s y hs hy => by
              by_cases e : s = j
              · subst e; rw [GX.out] at hy; cases hy; rw [HN1.out, HD1.out]; omega
              · exact HE.out s y (by omega) hy), rfl⟩
            case measure => simp [intOf]; omega
      · obtain rfl : j = n := by omega
        go_wp2
        go_ret
        exact ⟨⟨_, rfl, fun _ => ⟨by rw [HP.out.1]; omega, fun x hx => by
          obtain ⟨s, hs⟩ := List.mem_iff_getElem?.1 hx
          exact HE.out s x (by have := (List.getElem?_eq_some_iff.1 hs).1; rw [HP.out.1] at this; exact this) hs⟩, fun _ => rfl⟩, rfl⟩
theorem msg_any (a b k : Int) (w : World) :
    Calls Try.prog 24 #[.int .i64 a, .int .i64 b, .int .i64 k] w fun e w' => e = .returned (.agg #[.int .i64 a, .int .i64 b, .int .i64 k, .slice none 0 0, .slice none 0 0]) ∧ Ext w w' := by
  go_enter Try.func24, Try.ntmps24
  go_wp2
  refine bodyPost_ret (v := .agg #[.int .i64 a, .int .i64 b, .int .i64 k, .slice none 0 0, .slice none 0 0]) (results_cell_row rfl _ _ w.heap.size 26 #[.int .i64 a, .int .i64 b, .int .i64 k, .slice none 0 0, .slice none 0 0] (0, 0) _ rfl (heap_alloc_new _ _) Try.underlying26 rfl (by kernel_rfl)) rfl ⟨rfl, Ext.alloc _ _⟩
end Go.Proofs.Ytifbmkcfgpfefaa.Wi
