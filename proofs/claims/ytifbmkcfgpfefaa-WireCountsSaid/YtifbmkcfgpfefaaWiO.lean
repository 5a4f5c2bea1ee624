/- Messages: the live questions. -/
import Derived.Test.YtifbmkcfgpfefaaWiN
import Derived.Test.YtifbmkcfgpfefaaWiM
import Derived.Test.YtifbmkcfgpfefaaWiF
import Derived.Deep.RegionHeld3
namespace Go.Proofs.Ytifbmkcfgpfefaa.Wi
open Go.RowKit Go.Proofs.Ytifbmkcfgpfefaa
set_option linter.unusedVariables false

def mA : Mg := ⟨1, 2, 7, [], []⟩
def mB : Mg := ⟨2, 1, 8, [], []⟩
def mC : Mg := ⟨3, 2, 9, [], []⟩
theorem plain_c {a b k : Int} (w : World) (ha : (Lit.int .i64 a).wf = true) (hb : (Lit.int .i64 b).wf = true) (hk : (Lit.int .i64 k).wf = true) : MgC w ⟨a, b, k, [], []⟩ none 0 0 none 0 0 :=
  ⟨ha, hb, hk, Lay.Row.nil _ _ _, by omega, by omega, fun h => by omega, Lay.Row.nil _ _ _, by omega, by omega, fun h => by omega⟩
theorem cA (w : World) : MgC w mA none 0 0 none 0 0 := plain_c w (by decide) (by decide) (by decide)
theorem cB (w : World) : MgC w mB none 0 0 none 0 0 := plain_c w (by decide) (by decide) (by decide)
theorem cC (w : World) : MgC w mC none 0 0 none 0 0 := plain_c w (by decide) (by decide) (by decide)
theorem mgs_lit {w : World} {cs : Array Value} {l : List Mg} {n : Nat} (ha : LMg.All (w.alloc (.cells cs 26)) cs.toList l) (hn : l.length = n) (hb : n ≤ 1000) : LMg.Sl (w.alloc (.cells cs 26)) (.slice (some ⟨w.heap.size, 0, none⟩) n n) l :=
  Lay.Sl.mk (Lay.Row.lit (Ext.refl _) ha rfl hn (by omega)) (Nat.le_refl _) (by omega) (fun _ => ⟨_, _, rfl⟩)
theorem ints_lit {w : World} {cs : Array Value} {l : List Int} {n : Nat} (ha : (Lay.int .i64).All (w.alloc (.cells cs 3)) cs.toList l) (hn : l.length = n) (hb : n ≤ 1000) : (Lay.int .i64).Sl (w.alloc (.cells cs 3)) (.slice (some ⟨w.heap.size, 0, none⟩) n n) l :=
  Lay.Sl.mk (Lay.Row.lit (Ext.refl _) ha rfl hn (by omega)) (Nat.le_refl _) (by omega) (fun _ => ⟨_, _, rfl⟩)
theorem rsame_t {p q : Option Addr} {n c m d : Nat} {l k : List Mg} {w : World} (hl : LMg.Sl w (.slice p n c) l) (hk : LMg.Sl w (.slice q m d) k) (h : l = k) : Calls Try.prog 13 #[.slice p n c, .slice q m d] w fun e w' => e = .returned (.bool true) ∧ Ext w w' := by
  have := rsame_any p q n c m d l k w (sl_row hl) (sl_row hk)
  rwa [decide_eq_true h] at this
theorem rsame1_t {x y : Mg} {p1 : Option Addr} {n1 c1 : Nat} {q1 : Option Addr} {m1 d1 : Nat} {p2 : Option Addr} {n2 c2 : Nat} {q2 : Option Addr} {m2 d2 : Nat} {w : World} (hx : MgC w x p1 n1 c1 q1 m1 d1) (hy : MgC w y p2 n2 c2 q2 m2 d2) (h : x = y) :
    Calls Try.prog 16 #[.agg #[.int .i64 x.a, .int .i64 x.b, .int .i64 x.k, .slice p1 n1 c1, .slice q1 m1 d1], .agg #[.int .i64 y.a, .int .i64 y.b, .int .i64 y.k, .slice p2 n2 c2, .slice q2 m2 d2]] w fun e w' => e = .returned (.bool true) ∧ Ext w w' := by
  have := rsame1_any x y p1 n1 c1 q1 m1 d1 p2 n2 c2 q2 m2 d2 w hx hy
  rwa [decide_eq_true h] at this
theorem rints_t {p q : Option Addr} {n c m d : Nat} {l k : List Int} {w : World} (hl : (Lay.int .i64).Sl w (.slice p n c) l) (hk : (Lay.int .i64).Sl w (.slice q m d) k) (h : l = k) : Calls Try.prog 17 #[.slice p n c, .slice q m d] w fun e w' => e = .returned (.bool true) ∧ Ext w w' := by
  have := rints_any l k p q n c m d w (sl_row hl) (sl_row hk)
  rwa [decide_eq_true h] at this
theorem h_s1 : sendS [] mA 1 = [mA] := by decide
theorem h_s2 : sendS [mA] mB 3 = [mA, mB, mB] := by decide
theorem h_s3 : sendS [mA, mB, mB] mC 4 = [mA, mB, mC, mB] := by decide
theorem h_s4 : sendS [mA, mB, mB] mC 2 = [mA, mB, mB] := by decide
theorem h_t1 : takeS [mA, mB, mC, mB] 2 = ([mA, mB, mB], mC, true) := by decide
theorem h_t2 : takeS [mA, mB, mC, mB] 4 = ([mA, mB, mC, mB], zeroM, false) := by decide
theorem h_to : toL [mA, mB, mC, mB] 2 = [0, 2] := by decide
theorem h_cut : cutL [mA, mB, mC, mB] [3, 2] = [mC] := by decide
set_option maxRecDepth 100000 in
set_option maxHeartbeats 16000000 in
theorem head_v (w : World) : Calls Try.prog 9 #[] w fun e w' => e = .returned (.bool true) ∧ Ext w w' := by
  go_enter Try.func9, Try.ntmps9
  go_wp2_with fail
  refine (msg_any 1 2 7 _).mono ?_
  rintro e wA ⟨rfl, hxA⟩
  have HXA := Lib.hid hxA
  clear hxA
  go_wp2_with fail
  refine (msg_any 2 1 8 _).mono ?_
  rintro e wB ⟨rfl, hxB⟩
  have HXB := Lib.hid (Ext.trans HXA.out (Ext.trans (Ext.alloc wA (.cells #[.int .i64 1, .int .i64 2, .int .i64 7, .slice none 0 0, .slice none 0 0] 26)) hxB))
  have HYB := Lib.hid hxB
  clear hxB
  go_wp2_with fail
  refine (msg_any 3 2 9 _).mono ?_
  rintro e wC ⟨rfl, hxC⟩
  have HXC := Lib.hid (Ext.trans HXB.out (Ext.trans (Ext.alloc wB (.cells #[.int .i64 2, .int .i64 1, .int .i64 8, .slice none 0 0, .slice none 0 0] 26)) hxC))
  have HYC := Lib.hid hxC
  clear hxC
  have HBA : Hid (∀ w', Ext (wC.alloc (.cells #[.int .i64 3, .int .i64 2, .int .i64 9, .slice none 0 0, .slice none 0 0] 26)) w' → Ext (wA.alloc (.cells #[.int .i64 1, .int .i64 2, .int .i64 7, .slice none 0 0, .slice none 0 0] 26)) w') := Lib.hid fun w' h => Ext.trans HYB.out (Ext.trans (Ext.alloc _ _) (Ext.trans HYC.out (Ext.trans (Ext.alloc _ _) h)))
  have HBB : Hid (∀ w', Ext (wC.alloc (.cells #[.int .i64 3, .int .i64 2, .int .i64 9, .slice none 0 0, .slice none 0 0] 26)) w' → Ext (wB.alloc (.cells #[.int .i64 2, .int .i64 1, .int .i64 8, .slice none 0 0, .slice none 0 0] 26)) w') := Lib.hid fun w' h => Ext.trans HYC.out (Ext.trans (Ext.alloc _ _) h)
  have HXD : Hid (Ext w (wC.alloc (.cells #[.int .i64 3, .int .i64 2, .int .i64 9, .slice none 0 0, .slice none 0 0] 26))) := Lib.hid (Ext.trans HXC.out (Ext.alloc _ _))
  have HS0 : Hid (∀ w', Ext (wC.alloc (.cells #[.int .i64 3, .int .i64 2, .int .i64 9, .slice none 0 0, .slice none 0 0] 26)) w' → (fun w' : World => w'.cell? ⟨wA.heap.size, 0, none⟩ = some (.int .i64 1) ∧ w'.cell? ⟨wA.heap.size, 1, none⟩ = some (.int .i64 2) ∧ w'.cell? ⟨wA.heap.size, 2, none⟩ = some (.int .i64 7) ∧ w'.cell? ⟨wA.heap.size, 3, none⟩ = some (.slice none 0 0) ∧ w'.cell? ⟨wA.heap.size, 4, none⟩ = some (.slice none 0 0) ∧ w'.cell? ⟨wB.heap.size, 0, none⟩ = some (.int .i64 2) ∧ w'.cell? ⟨wB.heap.size, 1, none⟩ = some (.int .i64 1) ∧ w'.cell? ⟨wB.heap.size, 2, none⟩ = some (.int .i64 8) ∧ w'.cell? ⟨wB.heap.size, 3, none⟩ = some (.slice none 0 0) ∧ w'.cell? ⟨wB.heap.size, 4, none⟩ = some (.slice none 0 0)) w') := Lib.hid fun w' h => (by
    obtain ⟨a0, a1, a2, a3, a4⟩ := box5 (HBA.out w' h)
    obtain ⟨b0, b1, b2, b3, b4⟩ := box5 (HBB.out w' h)
    exact ⟨a0, a1, a2, a3, a4, b0, b1, b2, b3, b4⟩)
  go_wp2
  refine wp_region_held_drew (S := (fun w' : World => w'.cell? ⟨wA.heap.size, 0, none⟩ = some (.int .i64 1) ∧ w'.cell? ⟨wA.heap.size, 1, none⟩ = some (.int .i64 2) ∧ w'.cell? ⟨wA.heap.size, 2, none⟩ = some (.int .i64 7) ∧ w'.cell? ⟨wA.heap.size, 3, none⟩ = some (.slice none 0 0) ∧ w'.cell? ⟨wA.heap.size, 4, none⟩ = some (.slice none 0 0) ∧ w'.cell? ⟨wB.heap.size, 0, none⟩ = some (.int .i64 2) ∧ w'.cell? ⟨wB.heap.size, 1, none⟩ = some (.int .i64 1) ∧ w'.cell? ⟨wB.heap.size, 2, none⟩ = some (.int .i64 8) ∧ w'.cell? ⟨wB.heap.size, 3, none⟩ = some (.slice none 0 0) ∧ w'.cell? ⟨wB.heap.size, 4, none⟩ = some (.slice none 0 0))) (by kernel_rfl) (HS0.out _ (Ext.drew (Ext.refl _))) (fun _ => ?_)
  obtain ⟨Wd, hWd⟩ : ∃ Wd, (wC.alloc (.cells #[.int .i64 3, .int .i64 2, .int .i64 9, .slice none 0 0, .slice none 0 0] 26)).drew = Wd := ⟨_, rfl⟩
  have HXd : Hid (Ext (wC.alloc (.cells #[.int .i64 3, .int .i64 2, .int .i64 9, .slice none 0 0, .slice none 0 0] 26)) Wd) := Lib.hid (by rw [← hWd]; exact Ext.drew (Ext.refl _))
  have HS1 : Hid (∀ w', Ext Wd w' → (fun w' : World => w'.cell? ⟨wA.heap.size, 0, none⟩ = some (.int .i64 1) ∧ w'.cell? ⟨wA.heap.size, 1, none⟩ = some (.int .i64 2) ∧ w'.cell? ⟨wA.heap.size, 2, none⟩ = some (.int .i64 7) ∧ w'.cell? ⟨wA.heap.size, 3, none⟩ = some (.slice none 0 0) ∧ w'.cell? ⟨wA.heap.size, 4, none⟩ = some (.slice none 0 0) ∧ w'.cell? ⟨wB.heap.size, 0, none⟩ = some (.int .i64 2) ∧ w'.cell? ⟨wB.heap.size, 1, none⟩ = some (.int .i64 1) ∧ w'.cell? ⟨wB.heap.size, 2, none⟩ = some (.int .i64 8) ∧ w'.cell? ⟨wB.heap.size, 3, none⟩ = some (.slice none 0 0) ∧ w'.cell? ⟨wB.heap.size, 4, none⟩ = some (.slice none 0 0)) w') := Lib.hid fun w' h => HS0.out w' (Ext.trans HXd.out h)
  rw [hWd]
  clear hWd
  refine wpAnyH_take (i := 0) (oi := ⟨some 15, _, _, _, _, _⟩) (v := .agg #[.int .i64 1, .int .i64 2, .int .i64 7, .slice none 0 0, .slice none 0 0]) rfl (by kernel_rfl) (by kernel_rfl) (by kernel_rfl) (fun _ _ _ h => h) (Or.inl ⟨by rfl, ?_⟩) (HS1.out _ (Ext.refl _)) ?_
  · rintro w' ⟨s0, s1, s2, s3, s4, s5, s6, s7, s8, s9⟩
    go_simp
  try simp only [Act.put, List.setIfInBounds_toArray, List.set_cons_zero, List.set_cons_succ]
  refine wpAnyH_take (i := 2) (oi := ⟨some 17, _, _, _, _, _⟩) (v := .agg #[.int .i64 2, .int .i64 1, .int .i64 8, .slice none 0 0, .slice none 0 0]) rfl (by kernel_rfl) (by kernel_rfl) (by kernel_rfl) (fun _ _ _ h => h) (Or.inl ⟨by rfl, ?_⟩) (HS1.out _ (Ext.refl _)) ?_
  · rintro w' ⟨s0, s1, s2, s3, s4, s5, s6, s7, s8, s9⟩
    go_simp
  try simp only [Act.put, List.setIfInBounds_toArray, List.set_cons_zero, List.set_cons_succ]
  refine wpAnyH_ready (rs := [1]) (by kernel_rfl) (by simp) ?_
  refine AllReadyH.cons (o := ⟨some 16, .call { callee := .value (.func 14), args := #[.const (.slice none 0 0), .tmp 15, .const (.int .i64 1)], argTypes := #[22, 26, 3] }, _, _, _, _⟩) rfl (fun K hK => ?_) AllReadyH.nil
  go_simp
  refine (send_v none 0 0 [] mA none 0 0 none 0 0 1 Wd (Lay.Sl.nil _ _) (cA _) (by omega)).mono ?_
  rintro e Va1 ⟨⟨v1, rfl, hs1⟩, hx1⟩
  have E1 := Lib.hid hx1
  rw [h_s1] at hs1
  obtain ⟨p16, n16, c16, rfl, hn16⟩ := sl_form hs1
  have H16 := Lib.hid hs1
  have HN16 : Hid (n16 ≤ 1000) := Lib.hid (by rw [hn16]; decide)
  clear hs1 hn16
  clear hx1
  go_wp2_with fail
  refine hK.out _ _ (HS1.out _ E1.out) (fun _ => ?_)
  clear hK K
  try simp only [Act.put, List.setIfInBounds_toArray, List.set_cons_zero, List.set_cons_succ]
  refine wpAnyH_ready (rs := [3]) (by kernel_rfl) (by simp) ?_
  refine AllReadyH.cons (o := ⟨some 18, .call { callee := .value (.func 14), args := #[.tmp 16, .tmp 17, .const (.int .i64 3)], argTypes := #[22, 26, 3] }, _, _, _, _⟩) rfl (fun K hK => ?_) AllReadyH.nil
  go_simp
  refine (send_v p16 n16 c16 [mA] mB none 0 0 none 0 0 3 Va1 H16.out (cB _) HN16.out).mono ?_
  rintro e Va2 ⟨⟨v2, rfl, hs2⟩, hx2⟩
  have E2 := Lib.hid hx2
  rw [h_s2] at hs2
  obtain ⟨p4, n4, c4, rfl, hn4⟩ := sl_form hs2
  have H4 := Lib.hid hs2
  have HN4 : Hid (n4 ≤ 1000) := Lib.hid (by rw [hn4]; decide)
  clear hs2 hn4
  clear hx2
  go_wp2_with fail
  refine hK.out _ _ (HS1.out _ (Ext.trans E1.out E2.out)) (fun _ => ?_)
  clear hK K
  try simp only [Act.put, List.setIfInBounds_toArray, List.set_cons_zero, List.set_cons_succ]
  refine wpAnyH_take (i := 4) (oi := ⟨some 4, _, _, _, _, _⟩) (v := .slice p4 n4 c4) rfl (by kernel_rfl) (by kernel_rfl) (by kernel_rfl) (fun _ _ _ h => h) (Or.inl ⟨by rfl, ?_⟩) (HS1.out _ (Ext.trans E1.out E2.out)) ?_
  · rintro w' ⟨s0, s1, s2, s3, s4, s5, s6, s7, s8, s9⟩
    go_simp
  try simp only [Act.put, List.setIfInBounds_toArray, List.set_cons_zero, List.set_cons_succ]
  refine wpAnyH_done (by kernel_rfl) ?_ _
  have HX4 : Hid (Ext (wC.alloc (.cells #[.int .i64 3, .int .i64 2, .int .i64 9, .slice none 0 0, .slice none 0 0] 26)) Va2) := Lib.hid (Ext.trans HXd.out (Ext.trans E1.out E2.out))
  have HZ4 := H4
  obtain ⟨w4, hw4⟩ : ∃ w4, Va2 = w4 := ⟨_, rfl⟩
  rw [hw4] at HX4 HZ4 ⊢
  clear hw4
  obtain ⟨c0, c1, c2, c3, c4'⟩ := box5 HX4.out
  go_wp2_with fail
  refine (send_v p4 n4 c4 [mA, mB, mB] mC none 0 0 none 0 0 4 w4 HZ4.out (cC _) HN4.out).mono ?_
  rintro e w5 ⟨⟨v5, rfl, hs5⟩, hx5⟩
  rw [h_s3] at hs5
  obtain ⟨p5, n5, c5, rfl, hn5⟩ := sl_form hs5
  have H5 := Lib.hid hs5
  have HN5 : Hid (n5 ≤ 1000) := Lib.hid (by rw [hn5]; decide)
  have HX5 := Lib.hid hx5
  clear hs5 hn5 hx5 c0 c1 c2 c3 c4'
  go_wp2_with fail
  refine (take_v p5 n5 c5 _ 2 w5 H5.out HN5.out).mono ?_
  rintro e w6 ⟨⟨p7, n7, c7, q7, m7, d7, v6, rfl, hs6, hm6⟩, hx6⟩
  rw [h_t1] at hs6 hm6 ⊢
  obtain ⟨p6, n6, c6, rfl, hn6⟩ := sl_form hs6
  have H6 := Lib.hid hs6
  have HM6 : Hid (MgC w6 mC p7 n7 c7 q7 m7 d7) := Lib.hid hm6
  have HX6 := Lib.hid hx6
  clear hs6 hm6 hn6 hx6
  dsimp only [mC]
  go_wp2_with fail
  refine (take_v p5 n5 c5 _ 4 _ (H5.out.ext (Ext.trans HX6.out (Ext.alloc _ _))) HN5.out).mono ?_
  rintro e w8 ⟨⟨p9, n9, c9, q9, m9, d9, v8, rfl, hs8, hm8⟩, hx8⟩
  rw [h_t2] at hs8 ⊢
  obtain ⟨p10, n10, c10, rfl, hn10⟩ := sl_form hs8
  have HX8 := Lib.hid hx8
  clear hs8 hm8 hx8 hn10
  dsimp only [zeroM]
  obtain ⟨W8, hW8⟩ : ∃ W8, (w8.alloc (.cells #[.int .i64 0, .int .i64 0, .int .i64 0, .slice p9 n9 c9, .slice q9 m9 d9] 26)) = W8 := ⟨_, rfl⟩
  have HX8W : Hid (Ext w8 W8) := Lib.hid (by rw [← hW8]; exact Ext.alloc _ _)
  obtain ⟨We, hWe⟩ : ∃ We, W8.drew = We := ⟨_, rfl⟩
  have HXe : Hid (Ext W8 We) := Lib.hid (by rw [← hWe]; exact Ext.drew (Ext.refl _))
  have H7e : Hid (Ext (w6.alloc (.cells #[.int .i64 3, .int .i64 2, .int .i64 9, .slice p7 n7 c7, .slice q7 m7 d7] 26)) We) := Lib.hid (Ext.trans HX8.out (Ext.trans HX8W.out HXe.out))
  have H6e : Hid (Ext w6 We) := Lib.hid (Ext.trans (Ext.alloc _ _) H7e.out)
  have H5e : Hid (Ext w5 We) := Lib.hid (Ext.trans HX6.out H6e.out)
  have H4e : Hid (Ext w4 We) := Lib.hid (Ext.trans HX5.out H5e.out)
  have HCe : Hid (Ext (wC.alloc (.cells #[.int .i64 3, .int .i64 2, .int .i64 9, .slice none 0 0, .slice none 0 0] 26)) We) := Lib.hid (Ext.trans HX4.out H4e.out)
  have G4 := Lib.hid (HZ4.out.ext H4e.out)
  have G5 := Lib.hid (H5.out.ext H5e.out)
  have G6 := Lib.hid (H6.out.ext H6e.out)
  have G7 := Lib.hid (HM6.out.ext H6e.out)
  have HSE : Hid (∀ w', Ext We w' → (fun w' : World => w'.cell? ⟨wA.heap.size, 0, none⟩ = some (.int .i64 1) ∧ w'.cell? ⟨wA.heap.size, 1, none⟩ = some (.int .i64 2) ∧ w'.cell? ⟨wA.heap.size, 2, none⟩ = some (.int .i64 7) ∧ w'.cell? ⟨wA.heap.size, 3, none⟩ = some (.slice none 0 0) ∧ w'.cell? ⟨wA.heap.size, 4, none⟩ = some (.slice none 0 0) ∧ w'.cell? ⟨wB.heap.size, 0, none⟩ = some (.int .i64 2) ∧ w'.cell? ⟨wB.heap.size, 1, none⟩ = some (.int .i64 1) ∧ w'.cell? ⟨wB.heap.size, 2, none⟩ = some (.int .i64 8) ∧ w'.cell? ⟨wB.heap.size, 3, none⟩ = some (.slice none 0 0) ∧ w'.cell? ⟨wB.heap.size, 4, none⟩ = some (.slice none 0 0) ∧ w'.cell? ⟨wC.heap.size, 0, none⟩ = some (.int .i64 3) ∧ w'.cell? ⟨wC.heap.size, 1, none⟩ = some (.int .i64 2) ∧ w'.cell? ⟨wC.heap.size, 2, none⟩ = some (.int .i64 9) ∧ w'.cell? ⟨wC.heap.size, 3, none⟩ = some (.slice none 0 0) ∧ w'.cell? ⟨wC.heap.size, 4, none⟩ = some (.slice none 0 0) ∧ w'.cell? ⟨w6.heap.size, 0, none⟩ = some (.int .i64 3) ∧ w'.cell? ⟨w6.heap.size, 1, none⟩ = some (.int .i64 2) ∧ w'.cell? ⟨w6.heap.size, 2, none⟩ = some (.int .i64 9) ∧ w'.cell? ⟨w6.heap.size, 3, none⟩ = some (.slice p7 n7 c7) ∧ w'.cell? ⟨w6.heap.size, 4, none⟩ = some (.slice q7 m7 d7)) w') := Lib.hid fun w' h => (by
    obtain ⟨a0, a1, a2, a3, a4⟩ := box5 (HBA.out w' (Ext.trans HCe.out h))
    obtain ⟨b0, b1, b2, b3, b4⟩ := box5 (HBB.out w' (Ext.trans HCe.out h))
    obtain ⟨d0, d1, d2, d3, d4⟩ := box5 (Ext.trans HCe.out h)
    obtain ⟨f0, f1, f2, f3, f4⟩ := box5 (Ext.trans H7e.out h)
    exact ⟨a0, a1, a2, a3, a4, b0, b1, b2, b3, b4, d0, d1, d2, d3, d4, f0, f1, f2, f3, f4⟩)
  have HSE8 : (fun w' : World => w'.cell? ⟨wA.heap.size, 0, none⟩ = some (.int .i64 1) ∧ w'.cell? ⟨wA.heap.size, 1, none⟩ = some (.int .i64 2) ∧ w'.cell? ⟨wA.heap.size, 2, none⟩ = some (.int .i64 7) ∧ w'.cell? ⟨wA.heap.size, 3, none⟩ = some (.slice none 0 0) ∧ w'.cell? ⟨wA.heap.size, 4, none⟩ = some (.slice none 0 0) ∧ w'.cell? ⟨wB.heap.size, 0, none⟩ = some (.int .i64 2) ∧ w'.cell? ⟨wB.heap.size, 1, none⟩ = some (.int .i64 1) ∧ w'.cell? ⟨wB.heap.size, 2, none⟩ = some (.int .i64 8) ∧ w'.cell? ⟨wB.heap.size, 3, none⟩ = some (.slice none 0 0) ∧ w'.cell? ⟨wB.heap.size, 4, none⟩ = some (.slice none 0 0) ∧ w'.cell? ⟨wC.heap.size, 0, none⟩ = some (.int .i64 3) ∧ w'.cell? ⟨wC.heap.size, 1, none⟩ = some (.int .i64 2) ∧ w'.cell? ⟨wC.heap.size, 2, none⟩ = some (.int .i64 9) ∧ w'.cell? ⟨wC.heap.size, 3, none⟩ = some (.slice none 0 0) ∧ w'.cell? ⟨wC.heap.size, 4, none⟩ = some (.slice none 0 0) ∧ w'.cell? ⟨w6.heap.size, 0, none⟩ = some (.int .i64 3) ∧ w'.cell? ⟨w6.heap.size, 1, none⟩ = some (.int .i64 2) ∧ w'.cell? ⟨w6.heap.size, 2, none⟩ = some (.int .i64 9) ∧ w'.cell? ⟨w6.heap.size, 3, none⟩ = some (.slice p7 n7 c7) ∧ w'.cell? ⟨w6.heap.size, 4, none⟩ = some (.slice q7 m7 d7)) W8.drew := by rw [hWe]; exact HSE.out _ (Ext.refl _)
  have HFIN : Hid (Ext w We) := Lib.hid (Ext.trans HXD.out HCe.out)
  go_wp2
  try rw [hW8]
  clear hW8
  refine wp_region_held_drew (S := (fun w' : World => w'.cell? ⟨wA.heap.size, 0, none⟩ = some (.int .i64 1) ∧ w'.cell? ⟨wA.heap.size, 1, none⟩ = some (.int .i64 2) ∧ w'.cell? ⟨wA.heap.size, 2, none⟩ = some (.int .i64 7) ∧ w'.cell? ⟨wA.heap.size, 3, none⟩ = some (.slice none 0 0) ∧ w'.cell? ⟨wA.heap.size, 4, none⟩ = some (.slice none 0 0) ∧ w'.cell? ⟨wB.heap.size, 0, none⟩ = some (.int .i64 2) ∧ w'.cell? ⟨wB.heap.size, 1, none⟩ = some (.int .i64 1) ∧ w'.cell? ⟨wB.heap.size, 2, none⟩ = some (.int .i64 8) ∧ w'.cell? ⟨wB.heap.size, 3, none⟩ = some (.slice none 0 0) ∧ w'.cell? ⟨wB.heap.size, 4, none⟩ = some (.slice none 0 0) ∧ w'.cell? ⟨wC.heap.size, 0, none⟩ = some (.int .i64 3) ∧ w'.cell? ⟨wC.heap.size, 1, none⟩ = some (.int .i64 2) ∧ w'.cell? ⟨wC.heap.size, 2, none⟩ = some (.int .i64 9) ∧ w'.cell? ⟨wC.heap.size, 3, none⟩ = some (.slice none 0 0) ∧ w'.cell? ⟨wC.heap.size, 4, none⟩ = some (.slice none 0 0) ∧ w'.cell? ⟨w6.heap.size, 0, none⟩ = some (.int .i64 3) ∧ w'.cell? ⟨w6.heap.size, 1, none⟩ = some (.int .i64 2) ∧ w'.cell? ⟨w6.heap.size, 2, none⟩ = some (.int .i64 9) ∧ w'.cell? ⟨w6.heap.size, 3, none⟩ = some (.slice p7 n7 c7) ∧ w'.cell? ⟨w6.heap.size, 4, none⟩ = some (.slice q7 m7 d7))) (by kernel_rfl) HSE8 (fun _ => ?_)
  rw [hWe]
  clear hWe HSE8
  refine wpAnyH_take (i := 0) (oi := ⟨some 34, _, _, _, _, _⟩) (v := .slice p4 n4 c4) rfl (by kernel_rfl) (by kernel_rfl) (by kernel_rfl) (fun _ _ _ h => h) (Or.inl ⟨by rfl, ?_⟩) (HSE.out _ (Ext.refl _)) ?_
  · rintro w' ⟨s0, s1, s2, s3, s4, s5, s6, s7, s8, s9, s10, s11, s12, s13, s14, s15, s16, s17, s18, s19⟩
    go_simp
  try simp only [Act.put, List.setIfInBounds_toArray, List.set_cons_zero, List.set_cons_succ]
  refine wpAnyH_take (i := 1) (oi := ⟨some 35, _, _, _, _, _⟩) (v := .agg #[.int .i64 1, .int .i64 2, .int .i64 7, .slice none 0 0, .slice none 0 0]) rfl (by kernel_rfl) (by kernel_rfl) (by kernel_rfl) (fun _ _ _ h => h) (Or.inl ⟨by rfl, ?_⟩) (HSE.out _ (Ext.refl _)) ?_
  · rintro w' ⟨s0, s1, s2, s3, s4, s5, s6, s7, s8, s9, s10, s11, s12, s13, s14, s15, s16, s17, s18, s19⟩
    go_simp
  try simp only [Act.put, List.setIfInBounds_toArray, List.set_cons_zero, List.set_cons_succ]
  refine wpAnyH_take (i := 2) (oi := ⟨some 36, _, _, _, _, _⟩) (v := .agg #[.int .i64 2, .int .i64 1, .int .i64 8, .slice none 0 0, .slice none 0 0]) rfl (by kernel_rfl) (by kernel_rfl) (by kernel_rfl) (fun _ _ _ h => h) (Or.inl ⟨by rfl, ?_⟩) (HSE.out _ (Ext.refl _)) ?_
  · rintro w' ⟨s0, s1, s2, s3, s4, s5, s6, s7, s8, s9, s10, s11, s12, s13, s14, s15, s16, s17, s18, s19⟩
    go_simp
  try simp only [Act.put, List.setIfInBounds_toArray, List.set_cons_zero, List.set_cons_succ]
  refine wpAnyH_take (i := 3) (oi := ⟨some 37, _, _, _, _, _⟩) (v := .agg #[.int .i64 2, .int .i64 1, .int .i64 8, .slice none 0 0, .slice none 0 0]) rfl (by kernel_rfl) (by kernel_rfl) (by kernel_rfl) (fun _ _ _ h => h) (Or.inl ⟨by rfl, ?_⟩) (HSE.out _ (Ext.refl _)) ?_
  · rintro w' ⟨s0, s1, s2, s3, s4, s5, s6, s7, s8, s9, s10, s11, s12, s13, s14, s15, s16, s17, s18, s19⟩
    go_simp
  try simp only [Act.put, List.setIfInBounds_toArray, List.set_cons_zero, List.set_cons_succ]
  refine wpAnyH_ready (rs := [4]) (by kernel_rfl) (by simp) ?_
  refine AllReadyH.cons (o := ⟨some 38, .buildSlice 22 3 #[(0, .tmp 35), (1, .tmp 36), (2, .tmp 37)], _, _, _, _⟩) rfl (fun K hK => ?_) AllReadyH.nil
  go_simp
  have E1 : Hid (Ext We (We.alloc (.cells #[.int .i64 1, .int .i64 2, .int .i64 7, .slice none 0 0, .slice none 0 0, .int .i64 2, .int .i64 1, .int .i64 8, .slice none 0 0, .slice none 0 0, .int .i64 2, .int .i64 1, .int .i64 8, .slice none 0 0, .slice none 0 0] 26))) := Lib.hid (Ext.alloc _ _)
  have F38 : Hid (LMg.Sl (We.alloc (.cells #[.int .i64 1, .int .i64 2, .int .i64 7, .slice none 0 0, .slice none 0 0, .int .i64 2, .int .i64 1, .int .i64 8, .slice none 0 0, .slice none 0 0, .int .i64 2, .int .i64 1, .int .i64 8, .slice none 0 0, .slice none 0 0] 26)) (.slice (some ⟨We.heap.size, 0, none⟩) 3 3) [mA, mB, mB]) := Lib.hid (mgs_lit ⟨[.int .i64 1, .int .i64 2, .int .i64 7, .slice none 0 0, .slice none 0 0], [.int .i64 2, .int .i64 1, .int .i64 8, .slice none 0 0, .slice none 0 0, .int .i64 2, .int .i64 1, .int .i64 8, .slice none 0 0, .slice none 0 0], rfl, (cA _).r, [.int .i64 2, .int .i64 1, .int .i64 8, .slice none 0 0, .slice none 0 0], [.int .i64 2, .int .i64 1, .int .i64 8, .slice none 0 0, .slice none 0 0], rfl, (cB _).r, [.int .i64 2, .int .i64 1, .int .i64 8, .slice none 0 0, .slice none 0 0], [], rfl, (cB _).r, rfl⟩ rfl (by decide))
  refine hK.out _ _ (HSE.out _ E1.out) (fun _ => ?_)
  clear hK K
  try simp only [Act.put, List.setIfInBounds_toArray, List.set_cons_zero, List.set_cons_succ]
  generalize We.alloc (.cells #[.int .i64 1, .int .i64 2, .int .i64 7, .slice none 0 0, .slice none 0 0, .int .i64 2, .int .i64 1, .int .i64 8, .slice none 0 0, .slice none 0 0, .int .i64 2, .int .i64 1, .int .i64 8, .slice none 0 0, .slice none 0 0] 26) = Vb1 at E1 F38 ⊢
  refine wpAnyH_ready (rs := [5]) (by kernel_rfl) (by simp) ?_
  refine AllReadyH.cons (o := ⟨some 39, .call { callee := .value (.func 13), args := #[.tmp 34, .tmp 38], argTypes := #[22, 22] }, _, _, _, _⟩) rfl (fun K hK => ?_) AllReadyH.nil
  go_simp
  refine (rsame_t (G4.out.ext E1.out) (F38.out.ext (Ext.refl _)) rfl).mono ?_
  rintro e Vb2 ⟨rfl, hx2⟩
  have E2 := Lib.hid hx2
  clear hx2
  go_wp2_with fail
  refine hK.out _ _ (HSE.out _ (Ext.trans E1.out E2.out)) (fun _ => ?_)
  clear hK K
  try simp only [Act.put, List.setIfInBounds_toArray, List.set_cons_zero, List.set_cons_succ]
  refine wpAnyH_take (i := 6) (oi := ⟨some 40, _, _, _, _, _⟩) (v := .bool true) rfl (by kernel_rfl) (by kernel_rfl) (by kernel_rfl) (fun _ _ _ h => h) (Or.inl ⟨by rfl, ?_⟩) (HSE.out _ (Ext.trans E1.out E2.out)) ?_
  · rintro w' ⟨s0, s1, s2, s3, s4, s5, s6, s7, s8, s9, s10, s11, s12, s13, s14, s15, s16, s17, s18, s19⟩
    go_simp
  try simp only [Act.put, List.setIfInBounds_toArray, List.set_cons_zero, List.set_cons_succ]
  refine wpAnyH_take (i := 7) (oi := ⟨some 41, _, _, _, _, _⟩) (v := .slice p4 n4 c4) rfl (by kernel_rfl) (by kernel_rfl) (by kernel_rfl) (fun _ _ _ h => h) (Or.inl ⟨by rfl, ?_⟩) (HSE.out _ (Ext.trans E1.out E2.out)) ?_
  · rintro w' ⟨s0, s1, s2, s3, s4, s5, s6, s7, s8, s9, s10, s11, s12, s13, s14, s15, s16, s17, s18, s19⟩
    go_simp
  try simp only [Act.put, List.setIfInBounds_toArray, List.set_cons_zero, List.set_cons_succ]
  refine wpAnyH_take (i := 8) (oi := ⟨some 42, _, _, _, _, _⟩) (v := .agg #[.int .i64 3, .int .i64 2, .int .i64 9, .slice none 0 0, .slice none 0 0]) rfl (by kernel_rfl) (by kernel_rfl) (by kernel_rfl) (fun _ _ _ h => h) (Or.inl ⟨by rfl, ?_⟩) (HSE.out _ (Ext.trans E1.out E2.out)) ?_
  · rintro w' ⟨s0, s1, s2, s3, s4, s5, s6, s7, s8, s9, s10, s11, s12, s13, s14, s15, s16, s17, s18, s19⟩
    go_simp
  try simp only [Act.put, List.setIfInBounds_toArray, List.set_cons_zero, List.set_cons_succ]
  refine wpAnyH_ready (rs := [9]) (by kernel_rfl) (by simp) ?_
  refine AllReadyH.cons (o := ⟨some 43, .call { callee := .value (.func 14), args := #[.tmp 41, .tmp 42, .const (.int .i64 2)], argTypes := #[22, 26, 3] }, _, _, _, _⟩) rfl (fun K hK => ?_) AllReadyH.nil
  go_simp
  refine (send_v p4 n4 c4 [mA, mB, mB] mC none 0 0 none 0 0 2 Vb2 (G4.out.ext (Ext.trans E1.out E2.out)) (cC _) HN4.out).mono ?_
  rintro e Vb3 ⟨⟨v3, rfl, hs3⟩, hx3⟩
  have E3 := Lib.hid hx3
  rw [h_s4] at hs3
  obtain ⟨p43, n43, c43, rfl, hn43⟩ := sl_form hs3
  obtain rfl : n43 = 3 := by rw [hn43]; rfl
  have F43 := Lib.hid hs3
  clear hs3 hn43
  clear hx3
  go_wp2_with fail
  refine hK.out _ _ (HSE.out _ (Ext.trans E1.out (Ext.trans E2.out E3.out))) (fun _ => ?_)
  clear hK K
  try simp only [Act.put, List.setIfInBounds_toArray, List.set_cons_zero, List.set_cons_succ]
  refine wpAnyH_take (i := 10) (oi := ⟨some 44, _, _, _, _, _⟩) (v := .int .i64 3) rfl (by kernel_rfl) (by kernel_rfl) (by kernel_rfl) (fun _ _ _ h => h) (Or.inl ⟨by rfl, ?_⟩) (HSE.out _ (Ext.trans E1.out (Ext.trans E2.out E3.out))) ?_
  · rintro w' ⟨s0, s1, s2, s3, s4, s5, s6, s7, s8, s9, s10, s11, s12, s13, s14, s15, s16, s17, s18, s19⟩
    go_simp
  try simp only [Act.put, List.setIfInBounds_toArray, List.set_cons_zero, List.set_cons_succ]
  refine wpAnyH_take (i := 11) (oi := ⟨some 45, _, _, _, _, _⟩) (v := .bool true) rfl (by kernel_rfl) (by kernel_rfl) (by kernel_rfl) (fun _ _ _ h => h) (Or.inl ⟨by rfl, ?_⟩) (HSE.out _ (Ext.trans E1.out (Ext.trans E2.out E3.out))) ?_
  · rintro w' ⟨s0, s1, s2, s3, s4, s5, s6, s7, s8, s9, s10, s11, s12, s13, s14, s15, s16, s17, s18, s19⟩
    go_simp
  try simp only [Act.put, List.setIfInBounds_toArray, List.set_cons_zero, List.set_cons_succ]
  refine wpAnyH_take (i := 12) (oi := ⟨some 46, _, _, _, _, _⟩) (v := .bool true) rfl (by kernel_rfl) (by kernel_rfl) (by kernel_rfl) (fun _ _ _ h => h) (Or.inl ⟨by rfl, ?_⟩) (HSE.out _ (Ext.trans E1.out (Ext.trans E2.out E3.out))) ?_
  · rintro w' ⟨s0, s1, s2, s3, s4, s5, s6, s7, s8, s9, s10, s11, s12, s13, s14, s15, s16, s17, s18, s19⟩
    go_simp
  try simp only [Act.put, List.setIfInBounds_toArray, List.set_cons_zero, List.set_cons_succ]
  refine wpAnyH_take (i := 13) (oi := ⟨some 47, _, _, _, _, _⟩) (v := .bool true) rfl (by kernel_rfl) (by kernel_rfl) (by kernel_rfl) (fun _ _ _ h => h) (Or.inl ⟨by rfl, ?_⟩) (HSE.out _ (Ext.trans E1.out (Ext.trans E2.out E3.out))) ?_
  · rintro w' ⟨s0, s1, s2, s3, s4, s5, s6, s7, s8, s9, s10, s11, s12, s13, s14, s15, s16, s17, s18, s19⟩
    go_simp
  try simp only [Act.put, List.setIfInBounds_toArray, List.set_cons_zero, List.set_cons_succ]
  refine wpAnyH_take (i := 14) (oi := ⟨some 48, _, _, _, _, _⟩) (v := .slice p5 n5 c5) rfl (by kernel_rfl) (by kernel_rfl) (by kernel_rfl) (fun _ _ _ h => h) (Or.inl ⟨by rfl, ?_⟩) (HSE.out _ (Ext.trans E1.out (Ext.trans E2.out E3.out))) ?_
  · rintro w' ⟨s0, s1, s2, s3, s4, s5, s6, s7, s8, s9, s10, s11, s12, s13, s14, s15, s16, s17, s18, s19⟩
    go_simp
  try simp only [Act.put, List.setIfInBounds_toArray, List.set_cons_zero, List.set_cons_succ]
  refine wpAnyH_take (i := 15) (oi := ⟨some 49, _, _, _, _, _⟩) (v := .agg #[.int .i64 1, .int .i64 2, .int .i64 7, .slice none 0 0, .slice none 0 0]) rfl (by kernel_rfl) (by kernel_rfl) (by kernel_rfl) (fun _ _ _ h => h) (Or.inl ⟨by rfl, ?_⟩) (HSE.out _ (Ext.trans E1.out (Ext.trans E2.out E3.out))) ?_
  · rintro w' ⟨s0, s1, s2, s3, s4, s5, s6, s7, s8, s9, s10, s11, s12, s13, s14, s15, s16, s17, s18, s19⟩
    go_simp
  try simp only [Act.put, List.setIfInBounds_toArray, List.set_cons_zero, List.set_cons_succ]
  refine wpAnyH_take (i := 16) (oi := ⟨some 50, _, _, _, _, _⟩) (v := .agg #[.int .i64 2, .int .i64 1, .int .i64 8, .slice none 0 0, .slice none 0 0]) rfl (by kernel_rfl) (by kernel_rfl) (by kernel_rfl) (fun _ _ _ h => h) (Or.inl ⟨by rfl, ?_⟩) (HSE.out _ (Ext.trans E1.out (Ext.trans E2.out E3.out))) ?_
  · rintro w' ⟨s0, s1, s2, s3, s4, s5, s6, s7, s8, s9, s10, s11, s12, s13, s14, s15, s16, s17, s18, s19⟩
    go_simp
  try simp only [Act.put, List.setIfInBounds_toArray, List.set_cons_zero, List.set_cons_succ]
  refine wpAnyH_take (i := 17) (oi := ⟨some 51, _, _, _, _, _⟩) (v := .agg #[.int .i64 3, .int .i64 2, .int .i64 9, .slice none 0 0, .slice none 0 0]) rfl (by kernel_rfl) (by kernel_rfl) (by kernel_rfl) (fun _ _ _ h => h) (Or.inl ⟨by rfl, ?_⟩) (HSE.out _ (Ext.trans E1.out (Ext.trans E2.out E3.out))) ?_
  · rintro w' ⟨s0, s1, s2, s3, s4, s5, s6, s7, s8, s9, s10, s11, s12, s13, s14, s15, s16, s17, s18, s19⟩
    go_simp
  try simp only [Act.put, List.setIfInBounds_toArray, List.set_cons_zero, List.set_cons_succ]
  refine wpAnyH_take (i := 18) (oi := ⟨some 52, _, _, _, _, _⟩) (v := .agg #[.int .i64 2, .int .i64 1, .int .i64 8, .slice none 0 0, .slice none 0 0]) rfl (by kernel_rfl) (by kernel_rfl) (by kernel_rfl) (fun _ _ _ h => h) (Or.inl ⟨by rfl, ?_⟩) (HSE.out _ (Ext.trans E1.out (Ext.trans E2.out E3.out))) ?_
  · rintro w' ⟨s0, s1, s2, s3, s4, s5, s6, s7, s8, s9, s10, s11, s12, s13, s14, s15, s16, s17, s18, s19⟩
    go_simp
  try simp only [Act.put, List.setIfInBounds_toArray, List.set_cons_zero, List.set_cons_succ]
  refine wpAnyH_ready (rs := [19]) (by kernel_rfl) (by simp) ?_
  refine AllReadyH.cons (o := ⟨some 53, .buildSlice 22 4 #[(0, .tmp 49), (1, .tmp 50), (2, .tmp 51), (3, .tmp 52)], _, _, _, _⟩) rfl (fun K hK => ?_) AllReadyH.nil
  go_simp
  have E4 : Hid (Ext Vb3 (Vb3.alloc (.cells #[.int .i64 1, .int .i64 2, .int .i64 7, .slice none 0 0, .slice none 0 0, .int .i64 2, .int .i64 1, .int .i64 8, .slice none 0 0, .slice none 0 0, .int .i64 3, .int .i64 2, .int .i64 9, .slice none 0 0, .slice none 0 0, .int .i64 2, .int .i64 1, .int .i64 8, .slice none 0 0, .slice none 0 0] 26))) := Lib.hid (Ext.alloc _ _)
  have F53 : Hid (LMg.Sl (Vb3.alloc (.cells #[.int .i64 1, .int .i64 2, .int .i64 7, .slice none 0 0, .slice none 0 0, .int .i64 2, .int .i64 1, .int .i64 8, .slice none 0 0, .slice none 0 0, .int .i64 3, .int .i64 2, .int .i64 9, .slice none 0 0, .slice none 0 0, .int .i64 2, .int .i64 1, .int .i64 8, .slice none 0 0, .slice none 0 0] 26)) (.slice (some ⟨Vb3.heap.size, 0, none⟩) 4 4) [mA, mB, mC, mB]) := Lib.hid (mgs_lit ⟨[.int .i64 1, .int .i64 2, .int .i64 7, .slice none 0 0, .slice none 0 0], [.int .i64 2, .int .i64 1, .int .i64 8, .slice none 0 0, .slice none 0 0, .int .i64 3, .int .i64 2, .int .i64 9, .slice none 0 0, .slice none 0 0, .int .i64 2, .int .i64 1, .int .i64 8, .slice none 0 0, .slice none 0 0], rfl, (cA _).r, [.int .i64 2, .int .i64 1, .int .i64 8, .slice none 0 0, .slice none 0 0], [.int .i64 3, .int .i64 2, .int .i64 9, .slice none 0 0, .slice none 0 0, .int .i64 2, .int .i64 1, .int .i64 8, .slice none 0 0, .slice none 0 0], rfl, (cB _).r, [.int .i64 3, .int .i64 2, .int .i64 9, .slice none 0 0, .slice none 0 0], [.int .i64 2, .int .i64 1, .int .i64 8, .slice none 0 0, .slice none 0 0], rfl, (cC _).r, [.int .i64 2, .int .i64 1, .int .i64 8, .slice none 0 0, .slice none 0 0], [], rfl, (cB _).r, rfl⟩ rfl (by decide))
  refine hK.out _ _ (HSE.out _ (Ext.trans E1.out (Ext.trans E2.out (Ext.trans E3.out E4.out)))) (fun _ => ?_)
  clear hK K
  try simp only [Act.put, List.setIfInBounds_toArray, List.set_cons_zero, List.set_cons_succ]
  generalize Vb3.alloc (.cells #[.int .i64 1, .int .i64 2, .int .i64 7, .slice none 0 0, .slice none 0 0, .int .i64 2, .int .i64 1, .int .i64 8, .slice none 0 0, .slice none 0 0, .int .i64 3, .int .i64 2, .int .i64 9, .slice none 0 0, .slice none 0 0, .int .i64 2, .int .i64 1, .int .i64 8, .slice none 0 0, .slice none 0 0] 26) = Vb4 at E4 F53 ⊢
  refine wpAnyH_ready (rs := [20]) (by kernel_rfl) (by simp) ?_
  refine AllReadyH.cons (o := ⟨some 54, .call { callee := .value (.func 13), args := #[.tmp 48, .tmp 53], argTypes := #[22, 22] }, _, _, _, _⟩) rfl (fun K hK => ?_) AllReadyH.nil
  go_simp
  refine (rsame_t (G5.out.ext (Ext.trans E1.out (Ext.trans E2.out (Ext.trans E3.out E4.out)))) (F53.out.ext (Ext.refl _)) rfl).mono ?_
  rintro e Vb5 ⟨rfl, hx5⟩
  have E5 := Lib.hid hx5
  clear hx5
  go_wp2_with fail
  refine hK.out _ _ (HSE.out _ (Ext.trans E1.out (Ext.trans E2.out (Ext.trans E3.out (Ext.trans E4.out E5.out))))) (fun _ => ?_)
  clear hK K
  try simp only [Act.put, List.setIfInBounds_toArray, List.set_cons_zero, List.set_cons_succ]
  refine wpAnyH_take (i := 21) (oi := ⟨some 55, _, _, _, _, _⟩) (v := .bool true) rfl (by kernel_rfl) (by kernel_rfl) (by kernel_rfl) (fun _ _ _ h => h) (Or.inl ⟨by rfl, ?_⟩) (HSE.out _ (Ext.trans E1.out (Ext.trans E2.out (Ext.trans E3.out (Ext.trans E4.out E5.out))))) ?_
  · rintro w' ⟨s0, s1, s2, s3, s4, s5, s6, s7, s8, s9, s10, s11, s12, s13, s14, s15, s16, s17, s18, s19⟩
    go_simp
  try simp only [Act.put, List.setIfInBounds_toArray, List.set_cons_zero, List.set_cons_succ]
  refine wpAnyH_take (i := 22) (oi := ⟨some 56, _, _, _, _, _⟩) (v := .bool true) rfl (by kernel_rfl) (by kernel_rfl) (by kernel_rfl) (fun _ _ _ h => h) (Or.inl ⟨by rfl, ?_⟩) (HSE.out _ (Ext.trans E1.out (Ext.trans E2.out (Ext.trans E3.out (Ext.trans E4.out E5.out))))) ?_
  · rintro w' ⟨s0, s1, s2, s3, s4, s5, s6, s7, s8, s9, s10, s11, s12, s13, s14, s15, s16, s17, s18, s19⟩
    go_simp
  try simp only [Act.put, List.setIfInBounds_toArray, List.set_cons_zero, List.set_cons_succ]
  refine wpAnyH_take (i := 23) (oi := ⟨some 57, _, _, _, _, _⟩) (v := .bool true) rfl (by kernel_rfl) (by kernel_rfl) (by kernel_rfl) (fun _ _ _ h => h) (Or.inl ⟨by rfl, ?_⟩) (HSE.out _ (Ext.trans E1.out (Ext.trans E2.out (Ext.trans E3.out (Ext.trans E4.out E5.out))))) ?_
  · rintro w' ⟨s0, s1, s2, s3, s4, s5, s6, s7, s8, s9, s10, s11, s12, s13, s14, s15, s16, s17, s18, s19⟩
    go_simp
  try simp only [Act.put, List.setIfInBounds_toArray, List.set_cons_zero, List.set_cons_succ]
  refine wpAnyH_take (i := 24) (oi := ⟨some 58, _, _, _, _, _⟩) (v := .bool true) rfl (by kernel_rfl) (by kernel_rfl) (by kernel_rfl) (fun _ _ _ h => h) (Or.inl ⟨by rfl, ?_⟩) (HSE.out _ (Ext.trans E1.out (Ext.trans E2.out (Ext.trans E3.out (Ext.trans E4.out E5.out))))) ?_
  · rintro w' ⟨s0, s1, s2, s3, s4, s5, s6, s7, s8, s9, s10, s11, s12, s13, s14, s15, s16, s17, s18, s19⟩
    go_simp
  try simp only [Act.put, List.setIfInBounds_toArray, List.set_cons_zero, List.set_cons_succ]
  refine wpAnyH_take (i := 25) (oi := ⟨some 59, _, _, _, _, _⟩) (v := .bool true) rfl (by kernel_rfl) (by kernel_rfl) (by kernel_rfl) (fun _ _ _ h => h) (Or.inl ⟨by rfl, ?_⟩) (HSE.out _ (Ext.trans E1.out (Ext.trans E2.out (Ext.trans E3.out (Ext.trans E4.out E5.out))))) ?_
  · rintro w' ⟨s0, s1, s2, s3, s4, s5, s6, s7, s8, s9, s10, s11, s12, s13, s14, s15, s16, s17, s18, s19⟩
    go_simp
  try simp only [Act.put, List.setIfInBounds_toArray, List.set_cons_zero, List.set_cons_succ]
  refine wpAnyH_take (i := 26) (oi := ⟨some 60, _, _, _, _, _⟩) (v := .agg #[.int .i64 3, .int .i64 2, .int .i64 9, .slice p7 n7 c7, .slice q7 m7 d7]) rfl (by kernel_rfl) (by kernel_rfl) (by kernel_rfl) (fun _ _ _ h => h) (Or.inl ⟨by rfl, ?_⟩) (HSE.out _ (Ext.trans E1.out (Ext.trans E2.out (Ext.trans E3.out (Ext.trans E4.out E5.out))))) ?_
  · rintro w' ⟨s0, s1, s2, s3, s4, s5, s6, s7, s8, s9, s10, s11, s12, s13, s14, s15, s16, s17, s18, s19⟩
    go_simp
  try simp only [Act.put, List.setIfInBounds_toArray, List.set_cons_zero, List.set_cons_succ]
  refine wpAnyH_take (i := 27) (oi := ⟨some 61, _, _, _, _, _⟩) (v := .agg #[.int .i64 3, .int .i64 2, .int .i64 9, .slice none 0 0, .slice none 0 0]) rfl (by kernel_rfl) (by kernel_rfl) (by kernel_rfl) (fun _ _ _ h => h) (Or.inl ⟨by rfl, ?_⟩) (HSE.out _ (Ext.trans E1.out (Ext.trans E2.out (Ext.trans E3.out (Ext.trans E4.out E5.out))))) ?_
  · rintro w' ⟨s0, s1, s2, s3, s4, s5, s6, s7, s8, s9, s10, s11, s12, s13, s14, s15, s16, s17, s18, s19⟩
    go_simp
  try simp only [Act.put, List.setIfInBounds_toArray, List.set_cons_zero, List.set_cons_succ]
  refine wpAnyH_ready (rs := [28]) (by kernel_rfl) (by simp) ?_
  refine AllReadyH.cons (o := ⟨some 62, .call { callee := .value (.func 16), args := #[.tmp 60, .tmp 61], argTypes := #[26, 26] }, _, _, _, _⟩) rfl (fun K hK => ?_) AllReadyH.nil
  go_simp
  refine (rsame1_t (x := mC) (y := mC) (G7.out.ext (Ext.trans E1.out (Ext.trans E2.out (Ext.trans E3.out (Ext.trans E4.out E5.out))))) (cC _) rfl).mono ?_
  rintro e Vb6 ⟨rfl, hx6⟩
  have E6 := Lib.hid hx6
  clear hx6
  go_wp2_with fail
  refine hK.out _ _ (HSE.out _ (Ext.trans E1.out (Ext.trans E2.out (Ext.trans E3.out (Ext.trans E4.out (Ext.trans E5.out E6.out)))))) (fun _ => ?_)
  clear hK K
  try simp only [Act.put, List.setIfInBounds_toArray, List.set_cons_zero, List.set_cons_succ]
  refine wpAnyH_take (i := 29) (oi := ⟨some 63, _, _, _, _, _⟩) (v := .bool true) rfl (by kernel_rfl) (by kernel_rfl) (by kernel_rfl) (fun _ _ _ h => h) (Or.inl ⟨by rfl, ?_⟩) (HSE.out _ (Ext.trans E1.out (Ext.trans E2.out (Ext.trans E3.out (Ext.trans E4.out (Ext.trans E5.out E6.out)))))) ?_
  · rintro w' ⟨s0, s1, s2, s3, s4, s5, s6, s7, s8, s9, s10, s11, s12, s13, s14, s15, s16, s17, s18, s19⟩
    go_simp
  try simp only [Act.put, List.setIfInBounds_toArray, List.set_cons_zero, List.set_cons_succ]
  refine wpAnyH_take (i := 30) (oi := ⟨some 64, _, _, _, _, _⟩) (v := .bool true) rfl (by kernel_rfl) (by kernel_rfl) (by kernel_rfl) (fun _ _ _ h => h) (Or.inl ⟨by rfl, ?_⟩) (HSE.out _ (Ext.trans E1.out (Ext.trans E2.out (Ext.trans E3.out (Ext.trans E4.out (Ext.trans E5.out E6.out)))))) ?_
  · rintro w' ⟨s0, s1, s2, s3, s4, s5, s6, s7, s8, s9, s10, s11, s12, s13, s14, s15, s16, s17, s18, s19⟩
    go_simp
  try simp only [Act.put, List.setIfInBounds_toArray, List.set_cons_zero, List.set_cons_succ]
  refine wpAnyH_take (i := 31) (oi := ⟨some 65, _, _, _, _, _⟩) (v := .slice p6 n6 c6) rfl (by kernel_rfl) (by kernel_rfl) (by kernel_rfl) (fun _ _ _ h => h) (Or.inl ⟨by rfl, ?_⟩) (HSE.out _ (Ext.trans E1.out (Ext.trans E2.out (Ext.trans E3.out (Ext.trans E4.out (Ext.trans E5.out E6.out)))))) ?_
  · rintro w' ⟨s0, s1, s2, s3, s4, s5, s6, s7, s8, s9, s10, s11, s12, s13, s14, s15, s16, s17, s18, s19⟩
    go_simp
  try simp only [Act.put, List.setIfInBounds_toArray, List.set_cons_zero, List.set_cons_succ]
  refine wpAnyH_take (i := 32) (oi := ⟨some 66, _, _, _, _, _⟩) (v := .slice p4 n4 c4) rfl (by kernel_rfl) (by kernel_rfl) (by kernel_rfl) (fun _ _ _ h => h) (Or.inl ⟨by rfl, ?_⟩) (HSE.out _ (Ext.trans E1.out (Ext.trans E2.out (Ext.trans E3.out (Ext.trans E4.out (Ext.trans E5.out E6.out)))))) ?_
  · rintro w' ⟨s0, s1, s2, s3, s4, s5, s6, s7, s8, s9, s10, s11, s12, s13, s14, s15, s16, s17, s18, s19⟩
    go_simp
  try simp only [Act.put, List.setIfInBounds_toArray, List.set_cons_zero, List.set_cons_succ]
  refine wpAnyH_ready (rs := [33]) (by kernel_rfl) (by simp) ?_
  refine AllReadyH.cons (o := ⟨some 67, .call { callee := .value (.func 13), args := #[.tmp 65, .tmp 66], argTypes := #[22, 22] }, _, _, _, _⟩) rfl (fun K hK => ?_) AllReadyH.nil
  go_simp
  refine (rsame_t (G6.out.ext (Ext.trans E1.out (Ext.trans E2.out (Ext.trans E3.out (Ext.trans E4.out (Ext.trans E5.out E6.out)))))) (G4.out.ext (Ext.trans E1.out (Ext.trans E2.out (Ext.trans E3.out (Ext.trans E4.out (Ext.trans E5.out E6.out)))))) rfl).mono ?_
  rintro e Vb7 ⟨rfl, hx7⟩
  have E7 := Lib.hid hx7
  clear hx7
  go_wp2_with fail
  refine hK.out _ _ (HSE.out _ (Ext.trans E1.out (Ext.trans E2.out (Ext.trans E3.out (Ext.trans E4.out (Ext.trans E5.out (Ext.trans E6.out E7.out))))))) (fun _ => ?_)
  clear hK K
  try simp only [Act.put, List.setIfInBounds_toArray, List.set_cons_zero, List.set_cons_succ]
  refine wpAnyH_take (i := 34) (oi := ⟨some 68, _, _, _, _, _⟩) (v := .bool true) rfl (by kernel_rfl) (by kernel_rfl) (by kernel_rfl) (fun _ _ _ h => h) (Or.inl ⟨by rfl, ?_⟩) (HSE.out _ (Ext.trans E1.out (Ext.trans E2.out (Ext.trans E3.out (Ext.trans E4.out (Ext.trans E5.out (Ext.trans E6.out E7.out))))))) ?_
  · rintro w' ⟨s0, s1, s2, s3, s4, s5, s6, s7, s8, s9, s10, s11, s12, s13, s14, s15, s16, s17, s18, s19⟩
    go_simp
  try simp only [Act.put, List.setIfInBounds_toArray, List.set_cons_zero, List.set_cons_succ]
  refine wpAnyH_take (i := 35) (oi := ⟨some 69, _, _, _, _, _⟩) (v := .bool true) rfl (by kernel_rfl) (by kernel_rfl) (by kernel_rfl) (fun _ _ _ h => h) (Or.inl ⟨by rfl, ?_⟩) (HSE.out _ (Ext.trans E1.out (Ext.trans E2.out (Ext.trans E3.out (Ext.trans E4.out (Ext.trans E5.out (Ext.trans E6.out E7.out))))))) ?_
  · rintro w' ⟨s0, s1, s2, s3, s4, s5, s6, s7, s8, s9, s10, s11, s12, s13, s14, s15, s16, s17, s18, s19⟩
    go_simp
  try simp only [Act.put, List.setIfInBounds_toArray, List.set_cons_zero, List.set_cons_succ]
  refine wpAnyH_take (i := 36) (oi := ⟨some 70, _, _, _, _, _⟩) (v := .bool false) rfl (by kernel_rfl) (by kernel_rfl) (by kernel_rfl) (fun _ _ _ h => h) (Or.inl ⟨by rfl, ?_⟩) (HSE.out _ (Ext.trans E1.out (Ext.trans E2.out (Ext.trans E3.out (Ext.trans E4.out (Ext.trans E5.out (Ext.trans E6.out E7.out))))))) ?_
  · rintro w' ⟨s0, s1, s2, s3, s4, s5, s6, s7, s8, s9, s10, s11, s12, s13, s14, s15, s16, s17, s18, s19⟩
    go_simp
  try simp only [Act.put, List.setIfInBounds_toArray, List.set_cons_zero, List.set_cons_succ]
  refine wpAnyH_take (i := 37) (oi := ⟨some 71, _, _, _, _, _⟩) (v := .bool true) rfl (by kernel_rfl) (by kernel_rfl) (by kernel_rfl) (fun _ _ _ h => h) (Or.inl ⟨by rfl, ?_⟩) (HSE.out _ (Ext.trans E1.out (Ext.trans E2.out (Ext.trans E3.out (Ext.trans E4.out (Ext.trans E5.out (Ext.trans E6.out E7.out))))))) ?_
  · rintro w' ⟨s0, s1, s2, s3, s4, s5, s6, s7, s8, s9, s10, s11, s12, s13, s14, s15, s16, s17, s18, s19⟩
    go_simp
  try simp only [Act.put, List.setIfInBounds_toArray, List.set_cons_zero, List.set_cons_succ]
  refine wpAnyH_take (i := 38) (oi := ⟨some 72, _, _, _, _, _⟩) (v := .bool true) rfl (by kernel_rfl) (by kernel_rfl) (by kernel_rfl) (fun _ _ _ h => h) (Or.inl ⟨by rfl, ?_⟩) (HSE.out _ (Ext.trans E1.out (Ext.trans E2.out (Ext.trans E3.out (Ext.trans E4.out (Ext.trans E5.out (Ext.trans E6.out E7.out))))))) ?_
  · rintro w' ⟨s0, s1, s2, s3, s4, s5, s6, s7, s8, s9, s10, s11, s12, s13, s14, s15, s16, s17, s18, s19⟩
    go_simp
  try simp only [Act.put, List.setIfInBounds_toArray, List.set_cons_zero, List.set_cons_succ]
  refine wpAnyH_take (i := 39) (oi := ⟨some 73, _, _, _, _, _⟩) (v := .bool true) rfl (by kernel_rfl) (by kernel_rfl) (by kernel_rfl) (fun _ _ _ h => h) (Or.inl ⟨by rfl, ?_⟩) (HSE.out _ (Ext.trans E1.out (Ext.trans E2.out (Ext.trans E3.out (Ext.trans E4.out (Ext.trans E5.out (Ext.trans E6.out E7.out))))))) ?_
  · rintro w' ⟨s0, s1, s2, s3, s4, s5, s6, s7, s8, s9, s10, s11, s12, s13, s14, s15, s16, s17, s18, s19⟩
    go_simp
  try simp only [Act.put, List.setIfInBounds_toArray, List.set_cons_zero, List.set_cons_succ]
  refine wpAnyH_take (i := 40) (oi := ⟨some 74, _, _, _, _, _⟩) (v := .slice p5 n5 c5) rfl (by kernel_rfl) (by kernel_rfl) (by kernel_rfl) (fun _ _ _ h => h) (Or.inl ⟨by rfl, ?_⟩) (HSE.out _ (Ext.trans E1.out (Ext.trans E2.out (Ext.trans E3.out (Ext.trans E4.out (Ext.trans E5.out (Ext.trans E6.out E7.out))))))) ?_
  · rintro w' ⟨s0, s1, s2, s3, s4, s5, s6, s7, s8, s9, s10, s11, s12, s13, s14, s15, s16, s17, s18, s19⟩
    go_simp
  try simp only [Act.put, List.setIfInBounds_toArray, List.set_cons_zero, List.set_cons_succ]
  refine wpAnyH_ready (rs := [41, 42]) (by kernel_rfl) (by simp) ?_
  refine AllReadyH.cons (o := ⟨some 75, .call { callee := .value (.func 18), args := #[.tmp 74, .const (.int .i64 2)], argTypes := #[22, 3] }, _, _, _, _⟩) rfl (fun K hK => ?_) (AllReadyH.cons (o := ⟨some 76, .buildSlice 23 2 #[(0, .const (.int .i64 0)), (1, .const (.int .i64 2))], _, _, _, _⟩) rfl (fun K hK => ?_) AllReadyH.nil)
  · go_simp
    refine (to_v p5 n5 c5 _ 2 Vb7 (sl_row (G5.out.ext (Ext.trans E1.out (Ext.trans E2.out (Ext.trans E3.out (Ext.trans E4.out (Ext.trans E5.out (Ext.trans E6.out E7.out)))))))) HN5.out).mono ?_
    rintro e Vb8 ⟨⟨v8, rfl, hs8⟩, hx8⟩
    have E8 := Lib.hid hx8
    rw [h_to] at hs8
    obtain ⟨p75, n75, c75, rfl, hn75⟩ := sl_form hs8
    have F75 := Lib.hid hs8
    clear hs8 hn75
    clear hx8
    go_wp2_with fail
    refine hK.out _ _ (HSE.out _ (Ext.trans E1.out (Ext.trans E2.out (Ext.trans E3.out (Ext.trans E4.out (Ext.trans E5.out (Ext.trans E6.out (Ext.trans E7.out E8.out)))))))) (fun _ => ?_)
    clear hK K
    try simp only [Act.put, List.setIfInBounds_toArray, List.set_cons_zero, List.set_cons_succ]
    refine wpAnyH_ready (rs := [42]) (by kernel_rfl) (by simp) ?_
    refine AllReadyH.cons (o := ⟨some 76, .buildSlice 23 2 #[(0, .const (.int .i64 0)), (1, .const (.int .i64 2))], _, _, _, _⟩) rfl (fun K hK => ?_) AllReadyH.nil
    go_simp
    have E9 : Hid (Ext Vb8 (Vb8.alloc (.cells #[.int .i64 0, .int .i64 2] 3))) := Lib.hid (Ext.alloc _ _)
    have F76 : Hid ((Lay.int .i64).Sl (Vb8.alloc (.cells #[.int .i64 0, .int .i64 2] 3)) (.slice (some ⟨Vb8.heap.size, 0, none⟩) 2 2) [0, 2]) := Lib.hid (ints_lit ⟨[.int .i64 0], [.int .i64 2], rfl, ⟨rfl, by decide⟩, [.int .i64 2], [], rfl, ⟨rfl, by decide⟩, rfl⟩ rfl (by decide))
    refine hK.out _ _ (HSE.out _ (Ext.trans E1.out (Ext.trans E2.out (Ext.trans E3.out (Ext.trans E4.out (Ext.trans E5.out (Ext.trans E6.out (Ext.trans E7.out (Ext.trans E8.out E9.out))))))))) (fun _ => ?_)
    clear hK K
    try simp only [Act.put, List.setIfInBounds_toArray, List.set_cons_zero, List.set_cons_succ]
    generalize Vb8.alloc (.cells #[.int .i64 0, .int .i64 2] 3) = Vb9 at E9 F76 ⊢
    refine wpAnyH_ready (rs := [43]) (by kernel_rfl) (by simp) ?_
    refine AllReadyH.cons (o := ⟨some 77, .call { callee := .value (.func 17), args := #[.tmp 75, .tmp 76], argTypes := #[23, 23] }, _, _, _, _⟩) rfl (fun K hK => ?_) AllReadyH.nil
    go_simp
    refine (rints_t (F75.out.ext E9.out) (F76.out.ext (Ext.refl _)) rfl).mono ?_
    rintro e Vb10 ⟨rfl, hx10⟩
    have E10 := Lib.hid hx10
    clear hx10
    go_wp2_with fail
    refine hK.out _ _ (HSE.out _ (Ext.trans E1.out (Ext.trans E2.out (Ext.trans E3.out (Ext.trans E4.out (Ext.trans E5.out (Ext.trans E6.out (Ext.trans E7.out (Ext.trans E8.out (Ext.trans E9.out E10.out)))))))))) (fun _ => ?_)
    clear hK K
    try simp only [Act.put, List.setIfInBounds_toArray, List.set_cons_zero, List.set_cons_succ]
    refine wpAnyH_take (i := 44) (oi := ⟨some 78, _, _, _, _, _⟩) (v := .bool true) rfl (by kernel_rfl) (by kernel_rfl) (by kernel_rfl) (fun _ _ _ h => h) (Or.inl ⟨by rfl, ?_⟩) (HSE.out _ (Ext.trans E1.out (Ext.trans E2.out (Ext.trans E3.out (Ext.trans E4.out (Ext.trans E5.out (Ext.trans E6.out (Ext.trans E7.out (Ext.trans E8.out (Ext.trans E9.out E10.out)))))))))) ?_
    · rintro w' ⟨s0, s1, s2, s3, s4, s5, s6, s7, s8, s9, s10, s11, s12, s13, s14, s15, s16, s17, s18, s19⟩
      go_simp
    try simp only [Act.put, List.setIfInBounds_toArray, List.set_cons_zero, List.set_cons_succ]
    refine wpAnyH_take (i := 45) (oi := ⟨some 79, _, _, _, _, _⟩) (v := .bool true) rfl (by kernel_rfl) (by kernel_rfl) (by kernel_rfl) (fun _ _ _ h => h) (Or.inl ⟨by rfl, ?_⟩) (HSE.out _ (Ext.trans E1.out (Ext.trans E2.out (Ext.trans E3.out (Ext.trans E4.out (Ext.trans E5.out (Ext.trans E6.out (Ext.trans E7.out (Ext.trans E8.out (Ext.trans E9.out E10.out)))))))))) ?_
    · rintro w' ⟨s0, s1, s2, s3, s4, s5, s6, s7, s8, s9, s10, s11, s12, s13, s14, s15, s16, s17, s18, s19⟩
      go_simp
    try simp only [Act.put, List.setIfInBounds_toArray, List.set_cons_zero, List.set_cons_succ]
    refine wpAnyH_take (i := 46) (oi := ⟨some 80, _, _, _, _, _⟩) (v := .slice p5 n5 c5) rfl (by kernel_rfl) (by kernel_rfl) (by kernel_rfl) (fun _ _ _ h => h) (Or.inl ⟨by rfl, ?_⟩) (HSE.out _ (Ext.trans E1.out (Ext.trans E2.out (Ext.trans E3.out (Ext.trans E4.out (Ext.trans E5.out (Ext.trans E6.out (Ext.trans E7.out (Ext.trans E8.out (Ext.trans E9.out E10.out)))))))))) ?_
    · rintro w' ⟨s0, s1, s2, s3, s4, s5, s6, s7, s8, s9, s10, s11, s12, s13, s14, s15, s16, s17, s18, s19⟩
      go_simp
    try simp only [Act.put, List.setIfInBounds_toArray, List.set_cons_zero, List.set_cons_succ]
    refine wpAnyH_take (i := 49) (oi := ⟨some 83, _, _, _, _, _⟩) (v := .agg #[.int .i64 3, .int .i64 2, .int .i64 9, .slice none 0 0, .slice none 0 0]) rfl (by kernel_rfl) (by kernel_rfl) (by kernel_rfl) (fun _ _ _ h => h) (Or.inl ⟨by rfl, ?_⟩) (HSE.out _ (Ext.trans E1.out (Ext.trans E2.out (Ext.trans E3.out (Ext.trans E4.out (Ext.trans E5.out (Ext.trans E6.out (Ext.trans E7.out (Ext.trans E8.out (Ext.trans E9.out E10.out)))))))))) ?_
    · rintro w' ⟨s0, s1, s2, s3, s4, s5, s6, s7, s8, s9, s10, s11, s12, s13, s14, s15, s16, s17, s18, s19⟩
      go_simp
    try simp only [Act.put, List.setIfInBounds_toArray, List.set_cons_zero, List.set_cons_succ]
    refine wpAnyH_ready (rs := [47, 50]) (by kernel_rfl) (by simp) ?_
    refine AllReadyH.cons (o := ⟨some 81, .buildSlice 23 2 #[(0, .const (.int .i64 3)), (1, .const (.int .i64 2))], _, _, _, _⟩) rfl (fun K hK => ?_) (AllReadyH.cons (o := ⟨some 84, .buildSlice 22 1 #[(0, .tmp 83)], _, _, _, _⟩) rfl (fun K hK => ?_) AllReadyH.nil)
    · go_simp
      have E11 : Hid (Ext Vb10 (Vb10.alloc (.cells #[.int .i64 3, .int .i64 2] 3))) := Lib.hid (Ext.alloc _ _)
      have F81 : Hid ((Lay.int .i64).Sl (Vb10.alloc (.cells #[.int .i64 3, .int .i64 2] 3)) (.slice (some ⟨Vb10.heap.size, 0, none⟩) 2 2) [3, 2]) := Lib.hid (ints_lit ⟨[.int .i64 3], [.int .i64 2], rfl, ⟨rfl, by decide⟩, [.int .i64 2], [], rfl, ⟨rfl, by decide⟩, rfl⟩ rfl (by decide))
      refine hK.out _ _ (HSE.out _ (Ext.trans E1.out (Ext.trans E2.out (Ext.trans E3.out (Ext.trans E4.out (Ext.trans E5.out (Ext.trans E6.out (Ext.trans E7.out (Ext.trans E8.out (Ext.trans E9.out (Ext.trans E10.out E11.out))))))))))) (fun _ => ?_)
      clear hK K
      try simp only [Act.put, List.setIfInBounds_toArray, List.set_cons_zero, List.set_cons_succ]
      generalize Vb10.alloc (.cells #[.int .i64 3, .int .i64 2] 3) = Vb11 at E11 F81 ⊢
      refine wpAnyH_ready (rs := [48, 50]) (by kernel_rfl) (by simp) ?_
      refine AllReadyH.cons (o := ⟨some 82, .call { callee := .value (.func 20), args := #[.tmp 80, .tmp 81], argTypes := #[22, 23] }, _, _, _, _⟩) rfl (fun K hK => ?_) (AllReadyH.cons (o := ⟨some 84, .buildSlice 22 1 #[(0, .tmp 83)], _, _, _, _⟩) rfl (fun K hK => ?_) AllReadyH.nil)
      · go_simp
        refine (cut_v p5 n5 c5 _ _ _ _ [3, 2] Vb11 (sl_row (G5.out.ext (Ext.trans E1.out (Ext.trans E2.out (Ext.trans E3.out (Ext.trans E4.out (Ext.trans E5.out (Ext.trans E6.out (Ext.trans E7.out (Ext.trans E8.out (Ext.trans E9.out (Ext.trans E10.out E11.out)))))))))))) (sl_row (F81.out.ext (Ext.refl _))) HN5.out).mono ?_
        rintro e Vb12 ⟨⟨v12, rfl, hs12⟩, hx12⟩
        have E12 := Lib.hid hx12
        rw [h_cut] at hs12
        obtain ⟨p82, n82, c82, rfl, hn82⟩ := sl_form hs12
        have F82 := Lib.hid hs12
        clear hs12 hn82
        clear hx12
        go_wp2_with fail
        refine hK.out _ _ (HSE.out _ (Ext.trans E1.out (Ext.trans E2.out (Ext.trans E3.out (Ext.trans E4.out (Ext.trans E5.out (Ext.trans E6.out (Ext.trans E7.out (Ext.trans E8.out (Ext.trans E9.out (Ext.trans E10.out (Ext.trans E11.out E12.out)))))))))))) (fun _ => ?_)
        clear hK K
        try simp only [Act.put, List.setIfInBounds_toArray, List.set_cons_zero, List.set_cons_succ]
        refine wpAnyH_ready (rs := [50]) (by kernel_rfl) (by simp) ?_
        refine AllReadyH.cons (o := ⟨some 84, .buildSlice 22 1 #[(0, .tmp 83)], _, _, _, _⟩) rfl (fun K hK => ?_) AllReadyH.nil
        go_simp
        have E13 : Hid (Ext Vb12 (Vb12.alloc (.cells #[.int .i64 3, .int .i64 2, .int .i64 9, .slice none 0 0, .slice none 0 0] 26))) := Lib.hid (Ext.alloc _ _)
        have F84 : Hid (LMg.Sl (Vb12.alloc (.cells #[.int .i64 3, .int .i64 2, .int .i64 9, .slice none 0 0, .slice none 0 0] 26)) (.slice (some ⟨Vb12.heap.size, 0, none⟩) 1 1) [mC]) := Lib.hid (mgs_lit ⟨[.int .i64 3, .int .i64 2, .int .i64 9, .slice none 0 0, .slice none 0 0], [], rfl, (cC _).r, rfl⟩ rfl (by decide))
        refine hK.out _ _ (HSE.out _ (Ext.trans E1.out (Ext.trans E2.out (Ext.trans E3.out (Ext.trans E4.out (Ext.trans E5.out (Ext.trans E6.out (Ext.trans E7.out (Ext.trans E8.out (Ext.trans E9.out (Ext.trans E10.out (Ext.trans E11.out (Ext.trans E12.out E13.out))))))))))))) (fun _ => ?_)
        clear hK K
        try simp only [Act.put, List.setIfInBounds_toArray, List.set_cons_zero, List.set_cons_succ]
        generalize Vb12.alloc (.cells #[.int .i64 3, .int .i64 2, .int .i64 9, .slice none 0 0, .slice none 0 0] 26) = Vb13 at E13 F84 ⊢
        refine wpAnyH_ready (rs := [51]) (by kernel_rfl) (by simp) ?_
        refine AllReadyH.cons (o := ⟨some 85, .call { callee := .value (.func 13), args := #[.tmp 82, .tmp 84], argTypes := #[22, 22] }, _, _, _, _⟩) rfl (fun K hK => ?_) AllReadyH.nil
        go_simp
        refine (rsame_t (F82.out.ext E13.out) (F84.out.ext (Ext.refl _)) rfl).mono ?_
        rintro e Vb14 ⟨rfl, hx14⟩
        have E14 := Lib.hid hx14
        clear hx14
        go_wp2_with fail
        refine hK.out _ _ (HSE.out _ (Ext.trans E1.out (Ext.trans E2.out (Ext.trans E3.out (Ext.trans E4.out (Ext.trans E5.out (Ext.trans E6.out (Ext.trans E7.out (Ext.trans E8.out (Ext.trans E9.out (Ext.trans E10.out (Ext.trans E11.out (Ext.trans E12.out (Ext.trans E13.out E14.out)))))))))))))) (fun _ => ?_)
        clear hK K
        try simp only [Act.put, List.setIfInBounds_toArray, List.set_cons_zero, List.set_cons_succ]
        refine wpAnyH_take (i := 52) (oi := ⟨some 86, _, _, _, _, _⟩) (v := .bool true) rfl (by kernel_rfl) (by kernel_rfl) (by kernel_rfl) (fun _ _ _ h => h) (Or.inl ⟨by rfl, ?_⟩) (HSE.out _ (Ext.trans E1.out (Ext.trans E2.out (Ext.trans E3.out (Ext.trans E4.out (Ext.trans E5.out (Ext.trans E6.out (Ext.trans E7.out (Ext.trans E8.out (Ext.trans E9.out (Ext.trans E10.out (Ext.trans E11.out (Ext.trans E12.out (Ext.trans E13.out E14.out)))))))))))))) ?_
        · rintro w' ⟨s0, s1, s2, s3, s4, s5, s6, s7, s8, s9, s10, s11, s12, s13, s14, s15, s16, s17, s18, s19⟩
          go_simp
        try simp only [Act.put, List.setIfInBounds_toArray, List.set_cons_zero, List.set_cons_succ]
        refine wpAnyH_take (i := 53) (oi := ⟨some 0, _, _, _, _, _⟩) (v := .bool true) rfl (by kernel_rfl) (by kernel_rfl) (by kernel_rfl) (fun _ _ _ h => h) (Or.inl ⟨by rfl, ?_⟩) (HSE.out _ (Ext.trans E1.out (Ext.trans E2.out (Ext.trans E3.out (Ext.trans E4.out (Ext.trans E5.out (Ext.trans E6.out (Ext.trans E7.out (Ext.trans E8.out (Ext.trans E9.out (Ext.trans E10.out (Ext.trans E11.out (Ext.trans E12.out (Ext.trans E13.out E14.out)))))))))))))) ?_
        · rintro w' ⟨s0, s1, s2, s3, s4, s5, s6, s7, s8, s9, s10, s11, s12, s13, s14, s15, s16, s17, s18, s19⟩
          go_simp
        try simp only [Act.put, List.setIfInBounds_toArray, List.set_cons_zero, List.set_cons_succ]
        refine wpAnyH_done (by kernel_rfl) ?_ _
        go_wp2
        go_ret
        exact ⟨rfl, Ext.trans HFIN.out (Ext.trans E1.out (Ext.trans E2.out (Ext.trans E3.out (Ext.trans E4.out (Ext.trans E5.out (Ext.trans E6.out (Ext.trans E7.out (Ext.trans E8.out (Ext.trans E9.out (Ext.trans E10.out (Ext.trans E11.out (Ext.trans E12.out (Ext.trans E13.out E14.out)))))))))))))⟩
      · go_simp
        have E15 : Hid (Ext Vb11 (Vb11.alloc (.cells #[.int .i64 3, .int .i64 2, .int .i64 9, .slice none 0 0, .slice none 0 0] 26))) := Lib.hid (Ext.alloc _ _)
        have F84 : Hid (LMg.Sl (Vb11.alloc (.cells #[.int .i64 3, .int .i64 2, .int .i64 9, .slice none 0 0, .slice none 0 0] 26)) (.slice (some ⟨Vb11.heap.size, 0, none⟩) 1 1) [mC]) := Lib.hid (mgs_lit ⟨[.int .i64 3, .int .i64 2, .int .i64 9, .slice none 0 0, .slice none 0 0], [], rfl, (cC _).r, rfl⟩ rfl (by decide))
        refine hK.out _ _ (HSE.out _ (Ext.trans E1.out (Ext.trans E2.out (Ext.trans E3.out (Ext.trans E4.out (Ext.trans E5.out (Ext.trans E6.out (Ext.trans E7.out (Ext.trans E8.out (Ext.trans E9.out (Ext.trans E10.out (Ext.trans E11.out E15.out)))))))))))) (fun _ => ?_)
        clear hK K
        try simp only [Act.put, List.setIfInBounds_toArray, List.set_cons_zero, List.set_cons_succ]
        generalize Vb11.alloc (.cells #[.int .i64 3, .int .i64 2, .int .i64 9, .slice none 0 0, .slice none 0 0] 26) = Vb15 at E15 F84 ⊢
        refine wpAnyH_ready (rs := [48]) (by kernel_rfl) (by simp) ?_
        refine AllReadyH.cons (o := ⟨some 82, .call { callee := .value (.func 20), args := #[.tmp 80, .tmp 81], argTypes := #[22, 23] }, _, _, _, _⟩) rfl (fun K hK => ?_) AllReadyH.nil
        go_simp
        refine (cut_v p5 n5 c5 _ _ _ _ [3, 2] Vb15 (sl_row (G5.out.ext (Ext.trans E1.out (Ext.trans E2.out (Ext.trans E3.out (Ext.trans E4.out (Ext.trans E5.out (Ext.trans E6.out (Ext.trans E7.out (Ext.trans E8.out (Ext.trans E9.out (Ext.trans E10.out (Ext.trans E11.out E15.out))))))))))))) (sl_row (F81.out.ext E15.out)) HN5.out).mono ?_
        rintro e Vb16 ⟨⟨v16, rfl, hs16⟩, hx16⟩
        have E16 := Lib.hid hx16
        rw [h_cut] at hs16
        obtain ⟨p82, n82, c82, rfl, hn82⟩ := sl_form hs16
        have F82 := Lib.hid hs16
        clear hs16 hn82
        clear hx16
        go_wp2_with fail
        refine hK.out _ _ (HSE.out _ (Ext.trans E1.out (Ext.trans E2.out (Ext.trans E3.out (Ext.trans E4.out (Ext.trans E5.out (Ext.trans E6.out (Ext.trans E7.out (Ext.trans E8.out (Ext.trans E9.out (Ext.trans E10.out (Ext.trans E11.out (Ext.trans E15.out E16.out))))))))))))) (fun _ => ?_)
        clear hK K
        try simp only [Act.put, List.setIfInBounds_toArray, List.set_cons_zero, List.set_cons_succ]
        refine wpAnyH_ready (rs := [51]) (by kernel_rfl) (by simp) ?_
        refine AllReadyH.cons (o := ⟨some 85, .call { callee := .value (.func 13), args := #[.tmp 82, .tmp 84], argTypes := #[22, 22] }, _, _, _, _⟩) rfl (fun K hK => ?_) AllReadyH.nil
        go_simp
        refine (rsame_t (F82.out.ext (Ext.refl _)) (F84.out.ext E16.out) rfl).mono ?_
        rintro e Vb17 ⟨rfl, hx17⟩
        have E17 := Lib.hid hx17
        clear hx17
        go_wp2_with fail
        refine hK.out _ _ (HSE.out _ (Ext.trans E1.out (Ext.trans E2.out (Ext.trans E3.out (Ext.trans E4.out (Ext.trans E5.out (Ext.trans E6.out (Ext.trans E7.out (Ext.trans E8.out (Ext.trans E9.out (Ext.trans E10.out (Ext.trans E11.out (Ext.trans E15.out (Ext.trans E16.out E17.out)))))))))))))) (fun _ => ?_)
        clear hK K
        try simp only [Act.put, List.setIfInBounds_toArray, List.set_cons_zero, List.set_cons_succ]
        refine wpAnyH_take (i := 52) (oi := ⟨some 86, _, _, _, _, _⟩) (v := .bool true) rfl (by kernel_rfl) (by kernel_rfl) (by kernel_rfl) (fun _ _ _ h => h) (Or.inl ⟨by rfl, ?_⟩) (HSE.out _ (Ext.trans E1.out (Ext.trans E2.out (Ext.trans E3.out (Ext.trans E4.out (Ext.trans E5.out (Ext.trans E6.out (Ext.trans E7.out (Ext.trans E8.out (Ext.trans E9.out (Ext.trans E10.out (Ext.trans E11.out (Ext.trans E15.out (Ext.trans E16.out E17.out)))))))))))))) ?_
        · rintro w' ⟨s0, s1, s2, s3, s4, s5, s6, s7, s8, s9, s10, s11, s12, s13, s14, s15, s16, s17, s18, s19⟩
          go_simp
        try simp only [Act.put, List.setIfInBounds_toArray, List.set_cons_zero, List.set_cons_succ]
        refine wpAnyH_take (i := 53) (oi := ⟨some 0, _, _, _, _, _⟩) (v := .bool true) rfl (by kernel_rfl) (by kernel_rfl) (by kernel_rfl) (fun _ _ _ h => h) (Or.inl ⟨by rfl, ?_⟩) (HSE.out _ (Ext.trans E1.out (Ext.trans E2.out (Ext.trans E3.out (Ext.trans E4.out (Ext.trans E5.out (Ext.trans E6.out (Ext.trans E7.out (Ext.trans E8.out (Ext.trans E9.out (Ext.trans E10.out (Ext.trans E11.out (Ext.trans E15.out (Ext.trans E16.out E17.out)))))))))))))) ?_
        · rintro w' ⟨s0, s1, s2, s3, s4, s5, s6, s7, s8, s9, s10, s11, s12, s13, s14, s15, s16, s17, s18, s19⟩
          go_simp
        try simp only [Act.put, List.setIfInBounds_toArray, List.set_cons_zero, List.set_cons_succ]
        refine wpAnyH_done (by kernel_rfl) ?_ _
        go_wp2
        go_ret
        exact ⟨rfl, Ext.trans HFIN.out (Ext.trans E1.out (Ext.trans E2.out (Ext.trans E3.out (Ext.trans E4.out (Ext.trans E5.out (Ext.trans E6.out (Ext.trans E7.out (Ext.trans E8.out (Ext.trans E9.out (Ext.trans E10.out (Ext.trans E11.out (Ext.trans E15.out (Ext.trans E16.out E17.out)))))))))))))⟩
    · go_simp
      have E18 : Hid (Ext Vb10 (Vb10.alloc (.cells #[.int .i64 3, .int .i64 2, .int .i64 9, .slice none 0 0, .slice none 0 0] 26))) := Lib.hid (Ext.alloc _ _)
      have F84 : Hid (LMg.Sl (Vb10.alloc (.cells #[.int .i64 3, .int .i64 2, .int .i64 9, .slice none 0 0, .slice none 0 0] 26)) (.slice (some ⟨Vb10.heap.size, 0, none⟩) 1 1) [mC]) := Lib.hid (mgs_lit ⟨[.int .i64 3, .int .i64 2, .int .i64 9, .slice none 0 0, .slice none 0 0], [], rfl, (cC _).r, rfl⟩ rfl (by decide))
      refine hK.out _ _ (HSE.out _ (Ext.trans E1.out (Ext.trans E2.out (Ext.trans E3.out (Ext.trans E4.out (Ext.trans E5.out (Ext.trans E6.out (Ext.trans E7.out (Ext.trans E8.out (Ext.trans E9.out (Ext.trans E10.out E18.out))))))))))) (fun _ => ?_)
      clear hK K
      try simp only [Act.put, List.setIfInBounds_toArray, List.set_cons_zero, List.set_cons_succ]
      generalize Vb10.alloc (.cells #[.int .i64 3, .int .i64 2, .int .i64 9, .slice none 0 0, .slice none 0 0] 26) = Vb18 at E18 F84 ⊢
      refine wpAnyH_ready (rs := [47]) (by kernel_rfl) (by simp) ?_
      refine AllReadyH.cons (o := ⟨some 81, .buildSlice 23 2 #[(0, .const (.int .i64 3)), (1, .const (.int .i64 2))], _, _, _, _⟩) rfl (fun K hK => ?_) AllReadyH.nil
      go_simp
      have E19 : Hid (Ext Vb18 (Vb18.alloc (.cells #[.int .i64 3, .int .i64 2] 3))) := Lib.hid (Ext.alloc _ _)
      have F81 : Hid ((Lay.int .i64).Sl (Vb18.alloc (.cells #[.int .i64 3, .int .i64 2] 3)) (.slice (some ⟨Vb18.heap.size, 0, none⟩) 2 2) [3, 2]) := Lib.hid (ints_lit ⟨[.int .i64 3], [.int .i64 2], rfl, ⟨rfl, by decide⟩, [.int .i64 2], [], rfl, ⟨rfl, by decide⟩, rfl⟩ rfl (by decide))
      refine hK.out _ _ (HSE.out _ (Ext.trans E1.out (Ext.trans E2.out (Ext.trans E3.out (Ext.trans E4.out (Ext.trans E5.out (Ext.trans E6.out (Ext.trans E7.out (Ext.trans E8.out (Ext.trans E9.out (Ext.trans E10.out (Ext.trans E18.out E19.out)))))))))))) (fun _ => ?_)
      clear hK K
      try simp only [Act.put, List.setIfInBounds_toArray, List.set_cons_zero, List.set_cons_succ]
      generalize Vb18.alloc (.cells #[.int .i64 3, .int .i64 2] 3) = Vb19 at E19 F81 ⊢
      refine wpAnyH_ready (rs := [48]) (by kernel_rfl) (by simp) ?_
      refine AllReadyH.cons (o := ⟨some 82, .call { callee := .value (.func 20), args := #[.tmp 80, .tmp 81], argTypes := #[22, 23] }, _, _, _, _⟩) rfl (fun K hK => ?_) AllReadyH.nil
      go_simp
      refine (cut_v p5 n5 c5 _ _ _ _ [3, 2] Vb19 (sl_row (G5.out.ext (Ext.trans E1.out (Ext.trans E2.out (Ext.trans E3.out (Ext.trans E4.out (Ext.trans E5.out (Ext.trans E6.out (Ext.trans E7.out (Ext.trans E8.out (Ext.trans E9.out (Ext.trans E10.out (Ext.trans E18.out E19.out))))))))))))) (sl_row (F81.out.ext (Ext.refl _))) HN5.out).mono ?_
      rintro e Vb20 ⟨⟨v20, rfl, hs20⟩, hx20⟩
      have E20 := Lib.hid hx20
      rw [h_cut] at hs20
      obtain ⟨p82, n82, c82, rfl, hn82⟩ := sl_form hs20
      have F82 := Lib.hid hs20
      clear hs20 hn82
      clear hx20
      go_wp2_with fail
      refine hK.out _ _ (HSE.out _ (Ext.trans E1.out (Ext.trans E2.out (Ext.trans E3.out (Ext.trans E4.out (Ext.trans E5.out (Ext.trans E6.out (Ext.trans E7.out (Ext.trans E8.out (Ext.trans E9.out (Ext.trans E10.out (Ext.trans E18.out (Ext.trans E19.out E20.out))))))))))))) (fun _ => ?_)
      clear hK K
      try simp only [Act.put, List.setIfInBounds_toArray, List.set_cons_zero, List.set_cons_succ]
      refine wpAnyH_ready (rs := [51]) (by kernel_rfl) (by simp) ?_
      refine AllReadyH.cons (o := ⟨some 85, .call { callee := .value (.func 13), args := #[.tmp 82, .tmp 84], argTypes := #[22, 22] }, _, _, _, _⟩) rfl (fun K hK => ?_) AllReadyH.nil
      go_simp
      refine (rsame_t (F82.out.ext (Ext.refl _)) (F84.out.ext (Ext.trans E19.out E20.out)) rfl).mono ?_
      rintro e Vb21 ⟨rfl, hx21⟩
      have E21 := Lib.hid hx21
      clear hx21
      go_wp2_with fail
      refine hK.out _ _ (HSE.out _ (Ext.trans E1.out (Ext.trans E2.out (Ext.trans E3.out (Ext.trans E4.out (Ext.trans E5.out (Ext.trans E6.out (Ext.trans E7.out (Ext.trans E8.out (Ext.trans E9.out (Ext.trans E10.out (Ext.trans E18.out (Ext.trans E19.out (Ext.trans E20.out E21.out)))))))))))))) (fun _ => ?_)
      clear hK K
      try simp only [Act.put, List.setIfInBounds_toArray, List.set_cons_zero, List.set_cons_succ]
      refine wpAnyH_take (i := 52) (oi := ⟨some 86, _, _, _, _, _⟩) (v := .bool true) rfl (by kernel_rfl) (by kernel_rfl) (by kernel_rfl) (fun _ _ _ h => h) (Or.inl ⟨by rfl, ?_⟩) (HSE.out _ (Ext.trans E1.out (Ext.trans E2.out (Ext.trans E3.out (Ext.trans E4.out (Ext.trans E5.out (Ext.trans E6.out (Ext.trans E7.out (Ext.trans E8.out (Ext.trans E9.out (Ext.trans E10.out (Ext.trans E18.out (Ext.trans E19.out (Ext.trans E20.out E21.out)))))))))))))) ?_
      · rintro w' ⟨s0, s1, s2, s3, s4, s5, s6, s7, s8, s9, s10, s11, s12, s13, s14, s15, s16, s17, s18, s19⟩
        go_simp
      try simp only [Act.put, List.setIfInBounds_toArray, List.set_cons_zero, List.set_cons_succ]
      refine wpAnyH_take (i := 53) (oi := ⟨some 0, _, _, _, _, _⟩) (v := .bool true) rfl (by kernel_rfl) (by kernel_rfl) (by kernel_rfl) (fun _ _ _ h => h) (Or.inl ⟨by rfl, ?_⟩) (HSE.out _ (Ext.trans E1.out (Ext.trans E2.out (Ext.trans E3.out (Ext.trans E4.out (Ext.trans E5.out (Ext.trans E6.out (Ext.trans E7.out (Ext.trans E8.out (Ext.trans E9.out (Ext.trans E10.out (Ext.trans E18.out (Ext.trans E19.out (Ext.trans E20.out E21.out)))))))))))))) ?_
      · rintro w' ⟨s0, s1, s2, s3, s4, s5, s6, s7, s8, s9, s10, s11, s12, s13, s14, s15, s16, s17, s18, s19⟩
        go_simp
      try simp only [Act.put, List.setIfInBounds_toArray, List.set_cons_zero, List.set_cons_succ]
      refine wpAnyH_done (by kernel_rfl) ?_ _
      go_wp2
      go_ret
      exact ⟨rfl, Ext.trans HFIN.out (Ext.trans E1.out (Ext.trans E2.out (Ext.trans E3.out (Ext.trans E4.out (Ext.trans E5.out (Ext.trans E6.out (Ext.trans E7.out (Ext.trans E8.out (Ext.trans E9.out (Ext.trans E10.out (Ext.trans E18.out (Ext.trans E19.out (Ext.trans E20.out E21.out)))))))))))))⟩
  · go_simp
    have E22 : Hid (Ext Vb7 (Vb7.alloc (.cells #[.int .i64 0, .int .i64 2] 3))) := Lib.hid (Ext.alloc _ _)
    have F76 : Hid ((Lay.int .i64).Sl (Vb7.alloc (.cells #[.int .i64 0, .int .i64 2] 3)) (.slice (some ⟨Vb7.heap.size, 0, none⟩) 2 2) [0, 2]) := Lib.hid (ints_lit ⟨[.int .i64 0], [.int .i64 2], rfl, ⟨rfl, by decide⟩, [.int .i64 2], [], rfl, ⟨rfl, by decide⟩, rfl⟩ rfl (by decide))
    refine hK.out _ _ (HSE.out _ (Ext.trans E1.out (Ext.trans E2.out (Ext.trans E3.out (Ext.trans E4.out (Ext.trans E5.out (Ext.trans E6.out (Ext.trans E7.out E22.out)))))))) (fun _ => ?_)
    clear hK K
    try simp only [Act.put, List.setIfInBounds_toArray, List.set_cons_zero, List.set_cons_succ]
    generalize Vb7.alloc (.cells #[.int .i64 0, .int .i64 2] 3) = Vb22 at E22 F76 ⊢
    refine wpAnyH_ready (rs := [41]) (by kernel_rfl) (by simp) ?_
    refine AllReadyH.cons (o := ⟨some 75, .call { callee := .value (.func 18), args := #[.tmp 74, .const (.int .i64 2)], argTypes := #[22, 3] }, _, _, _, _⟩) rfl (fun K hK => ?_) AllReadyH.nil
    go_simp
    refine (to_v p5 n5 c5 _ 2 Vb22 (sl_row (G5.out.ext (Ext.trans E1.out (Ext.trans E2.out (Ext.trans E3.out (Ext.trans E4.out (Ext.trans E5.out (Ext.trans E6.out (Ext.trans E7.out E22.out))))))))) HN5.out).mono ?_
    rintro e Vb23 ⟨⟨v23, rfl, hs23⟩, hx23⟩
    have E23 := Lib.hid hx23
    rw [h_to] at hs23
    obtain ⟨p75, n75, c75, rfl, hn75⟩ := sl_form hs23
    have F75 := Lib.hid hs23
    clear hs23 hn75
    clear hx23
    go_wp2_with fail
    refine hK.out _ _ (HSE.out _ (Ext.trans E1.out (Ext.trans E2.out (Ext.trans E3.out (Ext.trans E4.out (Ext.trans E5.out (Ext.trans E6.out (Ext.trans E7.out (Ext.trans E22.out E23.out))))))))) (fun _ => ?_)
    clear hK K
    try simp only [Act.put, List.setIfInBounds_toArray, List.set_cons_zero, List.set_cons_succ]
    refine wpAnyH_ready (rs := [43]) (by kernel_rfl) (by simp) ?_
    refine AllReadyH.cons (o := ⟨some 77, .call { callee := .value (.func 17), args := #[.tmp 75, .tmp 76], argTypes := #[23, 23] }, _, _, _, _⟩) rfl (fun K hK => ?_) AllReadyH.nil
    go_simp
    refine (rints_t (F75.out.ext (Ext.refl _)) (F76.out.ext E23.out) rfl).mono ?_
    rintro e Vb24 ⟨rfl, hx24⟩
    have E24 := Lib.hid hx24
    clear hx24
    go_wp2_with fail
    refine hK.out _ _ (HSE.out _ (Ext.trans E1.out (Ext.trans E2.out (Ext.trans E3.out (Ext.trans E4.out (Ext.trans E5.out (Ext.trans E6.out (Ext.trans E7.out (Ext.trans E22.out (Ext.trans E23.out E24.out)))))))))) (fun _ => ?_)
    clear hK K
    try simp only [Act.put, List.setIfInBounds_toArray, List.set_cons_zero, List.set_cons_succ]
    refine wpAnyH_take (i := 44) (oi := ⟨some 78, _, _, _, _, _⟩) (v := .bool true) rfl (by kernel_rfl) (by kernel_rfl) (by kernel_rfl) (fun _ _ _ h => h) (Or.inl ⟨by rfl, ?_⟩) (HSE.out _ (Ext.trans E1.out (Ext.trans E2.out (Ext.trans E3.out (Ext.trans E4.out (Ext.trans E5.out (Ext.trans E6.out (Ext.trans E7.out (Ext.trans E22.out (Ext.trans E23.out E24.out)))))))))) ?_
    · rintro w' ⟨s0, s1, s2, s3, s4, s5, s6, s7, s8, s9, s10, s11, s12, s13, s14, s15, s16, s17, s18, s19⟩
      go_simp
    try simp only [Act.put, List.setIfInBounds_toArray, List.set_cons_zero, List.set_cons_succ]
    refine wpAnyH_take (i := 45) (oi := ⟨some 79, _, _, _, _, _⟩) (v := .bool true) rfl (by kernel_rfl) (by kernel_rfl) (by kernel_rfl) (fun _ _ _ h => h) (Or.inl ⟨by rfl, ?_⟩) (HSE.out _ (Ext.trans E1.out (Ext.trans E2.out (Ext.trans E3.out (Ext.trans E4.out (Ext.trans E5.out (Ext.trans E6.out (Ext.trans E7.out (Ext.trans E22.out (Ext.trans E23.out E24.out)))))))))) ?_
    · rintro w' ⟨s0, s1, s2, s3, s4, s5, s6, s7, s8, s9, s10, s11, s12, s13, s14, s15, s16, s17, s18, s19⟩
      go_simp
    try simp only [Act.put, List.setIfInBounds_toArray, List.set_cons_zero, List.set_cons_succ]
    refine wpAnyH_take (i := 46) (oi := ⟨some 80, _, _, _, _, _⟩) (v := .slice p5 n5 c5) rfl (by kernel_rfl) (by kernel_rfl) (by kernel_rfl) (fun _ _ _ h => h) (Or.inl ⟨by rfl, ?_⟩) (HSE.out _ (Ext.trans E1.out (Ext.trans E2.out (Ext.trans E3.out (Ext.trans E4.out (Ext.trans E5.out (Ext.trans E6.out (Ext.trans E7.out (Ext.trans E22.out (Ext.trans E23.out E24.out)))))))))) ?_
    · rintro w' ⟨s0, s1, s2, s3, s4, s5, s6, s7, s8, s9, s10, s11, s12, s13, s14, s15, s16, s17, s18, s19⟩
      go_simp
    try simp only [Act.put, List.setIfInBounds_toArray, List.set_cons_zero, List.set_cons_succ]
    refine wpAnyH_take (i := 49) (oi := ⟨some 83, _, _, _, _, _⟩) (v := .agg #[.int .i64 3, .int .i64 2, .int .i64 9, .slice none 0 0, .slice none 0 0]) rfl (by kernel_rfl) (by kernel_rfl) (by kernel_rfl) (fun _ _ _ h => h) (Or.inl ⟨by rfl, ?_⟩) (HSE.out _ (Ext.trans E1.out (Ext.trans E2.out (Ext.trans E3.out (Ext.trans E4.out (Ext.trans E5.out (Ext.trans E6.out (Ext.trans E7.out (Ext.trans E22.out (Ext.trans E23.out E24.out)))))))))) ?_
    · rintro w' ⟨s0, s1, s2, s3, s4, s5, s6, s7, s8, s9, s10, s11, s12, s13, s14, s15, s16, s17, s18, s19⟩
      go_simp
    try simp only [Act.put, List.setIfInBounds_toArray, List.set_cons_zero, List.set_cons_succ]
    refine wpAnyH_ready (rs := [47, 50]) (by kernel_rfl) (by simp) ?_
    refine AllReadyH.cons (o := ⟨some 81, .buildSlice 23 2 #[(0, .const (.int .i64 3)), (1, .const (.int .i64 2))], _, _, _, _⟩) rfl (fun K hK => ?_) (AllReadyH.cons (o := ⟨some 84, .buildSlice 22 1 #[(0, .tmp 83)], _, _, _, _⟩) rfl (fun K hK => ?_) AllReadyH.nil)
    · go_simp
      have E25 : Hid (Ext Vb24 (Vb24.alloc (.cells #[.int .i64 3, .int .i64 2] 3))) := Lib.hid (Ext.alloc _ _)
      have F81 : Hid ((Lay.int .i64).Sl (Vb24.alloc (.cells #[.int .i64 3, .int .i64 2] 3)) (.slice (some ⟨Vb24.heap.size, 0, none⟩) 2 2) [3, 2]) := Lib.hid (ints_lit ⟨[.int .i64 3], [.int .i64 2], rfl, ⟨rfl, by decide⟩, [.int .i64 2], [], rfl, ⟨rfl, by decide⟩, rfl⟩ rfl (by decide))
      refine hK.out _ _ (HSE.out _ (Ext.trans E1.out (Ext.trans E2.out (Ext.trans E3.out (Ext.trans E4.out (Ext.trans E5.out (Ext.trans E6.out (Ext.trans E7.out (Ext.trans E22.out (Ext.trans E23.out (Ext.trans E24.out E25.out))))))))))) (fun _ => ?_)
      clear hK K
      try simp only [Act.put, List.setIfInBounds_toArray, List.set_cons_zero, List.set_cons_succ]
      generalize Vb24.alloc (.cells #[.int .i64 3, .int .i64 2] 3) = Vb25 at E25 F81 ⊢
      refine wpAnyH_ready (rs := [48, 50]) (by kernel_rfl) (by simp) ?_
      refine AllReadyH.cons (o := ⟨some 82, .call { callee := .value (.func 20), args := #[.tmp 80, .tmp 81], argTypes := #[22, 23] }, _, _, _, _⟩) rfl (fun K hK => ?_) (AllReadyH.cons (o := ⟨some 84, .buildSlice 22 1 #[(0, .tmp 83)], _, _, _, _⟩) rfl (fun K hK => ?_) AllReadyH.nil)
      · go_simp
        refine (cut_v p5 n5 c5 _ _ _ _ [3, 2] Vb25 (sl_row (G5.out.ext (Ext.trans E1.out (Ext.trans E2.out (Ext.trans E3.out (Ext.trans E4.out (Ext.trans E5.out (Ext.trans E6.out (Ext.trans E7.out (Ext.trans E22.out (Ext.trans E23.out (Ext.trans E24.out E25.out)))))))))))) (sl_row (F81.out.ext (Ext.refl _))) HN5.out).mono ?_
        rintro e Vb26 ⟨⟨v26, rfl, hs26⟩, hx26⟩
        have E26 := Lib.hid hx26
        rw [h_cut] at hs26
        obtain ⟨p82, n82, c82, rfl, hn82⟩ := sl_form hs26
        have F82 := Lib.hid hs26
        clear hs26 hn82
        clear hx26
        go_wp2_with fail
        refine hK.out _ _ (HSE.out _ (Ext.trans E1.out (Ext.trans E2.out (Ext.trans E3.out (Ext.trans E4.out (Ext.trans E5.out (Ext.trans E6.out (Ext.trans E7.out (Ext.trans E22.out (Ext.trans E23.out (Ext.trans E24.out (Ext.trans E25.out E26.out)))))))))))) (fun _ => ?_)
        clear hK K
        try simp only [Act.put, List.setIfInBounds_toArray, List.set_cons_zero, List.set_cons_succ]
        refine wpAnyH_ready (rs := [50]) (by kernel_rfl) (by simp) ?_
        refine AllReadyH.cons (o := ⟨some 84, .buildSlice 22 1 #[(0, .tmp 83)], _, _, _, _⟩) rfl (fun K hK => ?_) AllReadyH.nil
        go_simp
        have E27 : Hid (Ext Vb26 (Vb26.alloc (.cells #[.int .i64 3, .int .i64 2, .int .i64 9, .slice none 0 0, .slice none 0 0] 26))) := Lib.hid (Ext.alloc _ _)
        have F84 : Hid (LMg.Sl (Vb26.alloc (.cells #[.int .i64 3, .int .i64 2, .int .i64 9, .slice none 0 0, .slice none 0 0] 26)) (.slice (some ⟨Vb26.heap.size, 0, none⟩) 1 1) [mC]) := Lib.hid (mgs_lit ⟨[.int .i64 3, .int .i64 2, .int .i64 9, .slice none 0 0, .slice none 0 0], [], rfl, (cC _).r, rfl⟩ rfl (by decide))
        refine hK.out _ _ (HSE.out _ (Ext.trans E1.out (Ext.trans E2.out (Ext.trans E3.out (Ext.trans E4.out (Ext.trans E5.out (Ext.trans E6.out (Ext.trans E7.out (Ext.trans E22.out (Ext.trans E23.out (Ext.trans E24.out (Ext.trans E25.out (Ext.trans E26.out E27.out))))))))))))) (fun _ => ?_)
        clear hK K
        try simp only [Act.put, List.setIfInBounds_toArray, List.set_cons_zero, List.set_cons_succ]
        generalize Vb26.alloc (.cells #[.int .i64 3, .int .i64 2, .int .i64 9, .slice none 0 0, .slice none 0 0] 26) = Vb27 at E27 F84 ⊢
        refine wpAnyH_ready (rs := [51]) (by kernel_rfl) (by simp) ?_
        refine AllReadyH.cons (o := ⟨some 85, .call { callee := .value (.func 13), args := #[.tmp 82, .tmp 84], argTypes := #[22, 22] }, _, _, _, _⟩) rfl (fun K hK => ?_) AllReadyH.nil
        go_simp
        refine (rsame_t (F82.out.ext E27.out) (F84.out.ext (Ext.refl _)) rfl).mono ?_
        rintro e Vb28 ⟨rfl, hx28⟩
        have E28 := Lib.hid hx28
        clear hx28
        go_wp2_with fail
        refine hK.out _ _ (HSE.out _ (Ext.trans E1.out (Ext.trans E2.out (Ext.trans E3.out (Ext.trans E4.out (Ext.trans E5.out (Ext.trans E6.out (Ext.trans E7.out (Ext.trans E22.out (Ext.trans E23.out (Ext.trans E24.out (Ext.trans E25.out (Ext.trans E26.out (Ext.trans E27.out E28.out)))))))))))))) (fun _ => ?_)
        clear hK K
        try simp only [Act.put, List.setIfInBounds_toArray, List.set_cons_zero, List.set_cons_succ]
        refine wpAnyH_take (i := 52) (oi := ⟨some 86, _, _, _, _, _⟩) (v := .bool true) rfl (by kernel_rfl) (by kernel_rfl) (by kernel_rfl) (fun _ _ _ h => h) (Or.inl ⟨by rfl, ?_⟩) (HSE.out _ (Ext.trans E1.out (Ext.trans E2.out (Ext.trans E3.out (Ext.trans E4.out (Ext.trans E5.out (Ext.trans E6.out (Ext.trans E7.out (Ext.trans E22.out (Ext.trans E23.out (Ext.trans E24.out (Ext.trans E25.out (Ext.trans E26.out (Ext.trans E27.out E28.out)))))))))))))) ?_
        · rintro w' ⟨s0, s1, s2, s3, s4, s5, s6, s7, s8, s9, s10, s11, s12, s13, s14, s15, s16, s17, s18, s19⟩
          go_simp
        try simp only [Act.put, List.setIfInBounds_toArray, List.set_cons_zero, List.set_cons_succ]
        refine wpAnyH_take (i := 53) (oi := ⟨some 0, _, _, _, _, _⟩) (v := .bool true) rfl (by kernel_rfl) (by kernel_rfl) (by kernel_rfl) (fun _ _ _ h => h) (Or.inl ⟨by rfl, ?_⟩) (HSE.out _ (Ext.trans E1.out (Ext.trans E2.out (Ext.trans E3.out (Ext.trans E4.out (Ext.trans E5.out (Ext.trans E6.out (Ext.trans E7.out (Ext.trans E22.out (Ext.trans E23.out (Ext.trans E24.out (Ext.trans E25.out (Ext.trans E26.out (Ext.trans E27.out E28.out)))))))))))))) ?_
        · rintro w' ⟨s0, s1, s2, s3, s4, s5, s6, s7, s8, s9, s10, s11, s12, s13, s14, s15, s16, s17, s18, s19⟩
          go_simp
        try simp only [Act.put, List.setIfInBounds_toArray, List.set_cons_zero, List.set_cons_succ]
        refine wpAnyH_done (by kernel_rfl) ?_ _
        go_wp2
        go_ret
        exact ⟨rfl, Ext.trans HFIN.out (Ext.trans E1.out (Ext.trans E2.out (Ext.trans E3.out (Ext.trans E4.out (Ext.trans E5.out (Ext.trans E6.out (Ext.trans E7.out (Ext.trans E22.out (Ext.trans E23.out (Ext.trans E24.out (Ext.trans E25.out (Ext.trans E26.out (Ext.trans E27.out E28.out)))))))))))))⟩
      · go_simp
        have E29 : Hid (Ext Vb25 (Vb25.alloc (.cells #[.int .i64 3, .int .i64 2, .int .i64 9, .slice none 0 0, .slice none 0 0] 26))) := Lib.hid (Ext.alloc _ _)
        have F84 : Hid (LMg.Sl (Vb25.alloc (.cells #[.int .i64 3, .int .i64 2, .int .i64 9, .slice none 0 0, .slice none 0 0] 26)) (.slice (some ⟨Vb25.heap.size, 0, none⟩) 1 1) [mC]) := Lib.hid (mgs_lit ⟨[.int .i64 3, .int .i64 2, .int .i64 9, .slice none 0 0, .slice none 0 0], [], rfl, (cC _).r, rfl⟩ rfl (by decide))
        refine hK.out _ _ (HSE.out _ (Ext.trans E1.out (Ext.trans E2.out (Ext.trans E3.out (Ext.trans E4.out (Ext.trans E5.out (Ext.trans E6.out (Ext.trans E7.out (Ext.trans E22.out (Ext.trans E23.out (Ext.trans E24.out (Ext.trans E25.out E29.out)))))))))))) (fun _ => ?_)
        clear hK K
        try simp only [Act.put, List.setIfInBounds_toArray, List.set_cons_zero, List.set_cons_succ]
        generalize Vb25.alloc (.cells #[.int .i64 3, .int .i64 2, .int .i64 9, .slice none 0 0, .slice none 0 0] 26) = Vb29 at E29 F84 ⊢
        refine wpAnyH_ready (rs := [48]) (by kernel_rfl) (by simp) ?_
        refine AllReadyH.cons (o := ⟨some 82, .call { callee := .value (.func 20), args := #[.tmp 80, .tmp 81], argTypes := #[22, 23] }, _, _, _, _⟩) rfl (fun K hK => ?_) AllReadyH.nil
        go_simp
        refine (cut_v p5 n5 c5 _ _ _ _ [3, 2] Vb29 (sl_row (G5.out.ext (Ext.trans E1.out (Ext.trans E2.out (Ext.trans E3.out (Ext.trans E4.out (Ext.trans E5.out (Ext.trans E6.out (Ext.trans E7.out (Ext.trans E22.out (Ext.trans E23.out (Ext.trans E24.out (Ext.trans E25.out E29.out))))))))))))) (sl_row (F81.out.ext E29.out)) HN5.out).mono ?_
        rintro e Vb30 ⟨⟨v30, rfl, hs30⟩, hx30⟩
        have E30 := Lib.hid hx30
        rw [h_cut] at hs30
        obtain ⟨p82, n82, c82, rfl, hn82⟩ := sl_form hs30
        have F82 := Lib.hid hs30
        clear hs30 hn82
        clear hx30
        go_wp2_with fail
        refine hK.out _ _ (HSE.out _ (Ext.trans E1.out (Ext.trans E2.out (Ext.trans E3.out (Ext.trans E4.out (Ext.trans E5.out (Ext.trans E6.out (Ext.trans E7.out (Ext.trans E22.out (Ext.trans E23.out (Ext.trans E24.out (Ext.trans E25.out (Ext.trans E29.out E30.out))))))))))))) (fun _ => ?_)
        clear hK K
        try simp only [Act.put, List.setIfInBounds_toArray, List.set_cons_zero, List.set_cons_succ]
        refine wpAnyH_ready (rs := [51]) (by kernel_rfl) (by simp) ?_
        refine AllReadyH.cons (o := ⟨some 85, .call { callee := .value (.func 13), args := #[.tmp 82, .tmp 84], argTypes := #[22, 22] }, _, _, _, _⟩) rfl (fun K hK => ?_) AllReadyH.nil
        go_simp
        refine (rsame_t (F82.out.ext (Ext.refl _)) (F84.out.ext E30.out) rfl).mono ?_
        rintro e Vb31 ⟨rfl, hx31⟩
        have E31 := Lib.hid hx31
        clear hx31
        go_wp2_with fail
        refine hK.out _ _ (HSE.out _ (Ext.trans E1.out (Ext.trans E2.out (Ext.trans E3.out (Ext.trans E4.out (Ext.trans E5.out (Ext.trans E6.out (Ext.trans E7.out (Ext.trans E22.out (Ext.trans E23.out (Ext.trans E24.out (Ext.trans E25.out (Ext.trans E29.out (Ext.trans E30.out E31.out)))))))))))))) (fun _ => ?_)
        clear hK K
        try simp only [Act.put, List.setIfInBounds_toArray, List.set_cons_zero, List.set_cons_succ]
        refine wpAnyH_take (i := 52) (oi := ⟨some 86, _, _, _, _, _⟩) (v := .bool true) rfl (by kernel_rfl) (by kernel_rfl) (by kernel_rfl) (fun _ _ _ h => h) (Or.inl ⟨by rfl, ?_⟩) (HSE.out _ (Ext.trans E1.out (Ext.trans E2.out (Ext.trans E3.out (Ext.trans E4.out (Ext.trans E5.out (Ext.trans E6.out (Ext.trans E7.out (Ext.trans E22.out (Ext.trans E23.out (Ext.trans E24.out (Ext.trans E25.out (Ext.trans E29.out (Ext.trans E30.out E31.out)))))))))))))) ?_
        · rintro w' ⟨s0, s1, s2, s3, s4, s5, s6, s7, s8, s9, s10, s11, s12, s13, s14, s15, s16, s17, s18, s19⟩
          go_simp
        try simp only [Act.put, List.setIfInBounds_toArray, List.set_cons_zero, List.set_cons_succ]
        refine wpAnyH_take (i := 53) (oi := ⟨some 0, _, _, _, _, _⟩) (v := .bool true) rfl (by kernel_rfl) (by kernel_rfl) (by kernel_rfl) (fun _ _ _ h => h) (Or.inl ⟨by rfl, ?_⟩) (HSE.out _ (Ext.trans E1.out (Ext.trans E2.out (Ext.trans E3.out (Ext.trans E4.out (Ext.trans E5.out (Ext.trans E6.out (Ext.trans E7.out (Ext.trans E22.out (Ext.trans E23.out (Ext.trans E24.out (Ext.trans E25.out (Ext.trans E29.out (Ext.trans E30.out E31.out)))))))))))))) ?_
        · rintro w' ⟨s0, s1, s2, s3, s4, s5, s6, s7, s8, s9, s10, s11, s12, s13, s14, s15, s16, s17, s18, s19⟩
          go_simp
        try simp only [Act.put, List.setIfInBounds_toArray, List.set_cons_zero, List.set_cons_succ]
        refine wpAnyH_done (by kernel_rfl) ?_ _
        go_wp2
        go_ret
        exact ⟨rfl, Ext.trans HFIN.out (Ext.trans E1.out (Ext.trans E2.out (Ext.trans E3.out (Ext.trans E4.out (Ext.trans E5.out (Ext.trans E6.out (Ext.trans E7.out (Ext.trans E22.out (Ext.trans E23.out (Ext.trans E24.out (Ext.trans E25.out (Ext.trans E29.out (Ext.trans E30.out E31.out)))))))))))))⟩
    · go_simp
      have E32 : Hid (Ext Vb24 (Vb24.alloc (.cells #[.int .i64 3, .int .i64 2, .int .i64 9, .slice none 0 0, .slice none 0 0] 26))) := Lib.hid (Ext.alloc _ _)
      have F84 : Hid (LMg.Sl (Vb24.alloc (.cells #[.int .i64 3, .int .i64 2, .int .i64 9, .slice none 0 0, .slice none 0 0] 26)) (.slice (some ⟨Vb24.heap.size, 0, none⟩) 1 1) [mC]) := Lib.hid (mgs_lit ⟨[.int .i64 3, .int .i64 2, .int .i64 9, .slice none 0 0, .slice none 0 0], [], rfl, (cC _).r, rfl⟩ rfl (by decide))
      refine hK.out _ _ (HSE.out _ (Ext.trans E1.out (Ext.trans E2.out (Ext.trans E3.out (Ext.trans E4.out (Ext.trans E5.out (Ext.trans E6.out (Ext.trans E7.out (Ext.trans E22.out (Ext.trans E23.out (Ext.trans E24.out E32.out))))))))))) (fun _ => ?_)
      clear hK K
      try simp only [Act.put, List.setIfInBounds_toArray, List.set_cons_zero, List.set_cons_succ]
      generalize Vb24.alloc (.cells #[.int .i64 3, .int .i64 2, .int .i64 9, .slice none 0 0, .slice none 0 0] 26) = Vb32 at E32 F84 ⊢
      refine wpAnyH_ready (rs := [47]) (by kernel_rfl) (by simp) ?_
      refine AllReadyH.cons (o := ⟨some 81, .buildSlice 23 2 #[(0, .const (.int .i64 3)), (1, .const (.int .i64 2))], _, _, _, _⟩) rfl (fun K hK => ?_) AllReadyH.nil
      go_simp
      have E33 : Hid (Ext Vb32 (Vb32.alloc (.cells #[.int .i64 3, .int .i64 2] 3))) := Lib.hid (Ext.alloc _ _)
      have F81 : Hid ((Lay.int .i64).Sl (Vb32.alloc (.cells #[.int .i64 3, .int .i64 2] 3)) (.slice (some ⟨Vb32.heap.size, 0, none⟩) 2 2) [3, 2]) := Lib.hid (ints_lit ⟨[.int .i64 3], [.int .i64 2], rfl, ⟨rfl, by decide⟩, [.int .i64 2], [], rfl, ⟨rfl, by decide⟩, rfl⟩ rfl (by decide))
      refine hK.out _ _ (HSE.out _ (Ext.trans E1.out (Ext.trans E2.out (Ext.trans E3.out (Ext.trans E4.out (Ext.trans E5.out (Ext.trans E6.out (Ext.trans E7.out (Ext.trans E22.out (Ext.trans E23.out (Ext.trans E24.out (Ext.trans E32.out E33.out)))))))))))) (fun _ => ?_)
      clear hK K
      try simp only [Act.put, List.setIfInBounds_toArray, List.set_cons_zero, List.set_cons_succ]
      generalize Vb32.alloc (.cells #[.int .i64 3, .int .i64 2] 3) = Vb33 at E33 F81 ⊢
      refine wpAnyH_ready (rs := [48]) (by kernel_rfl) (by simp) ?_
      refine AllReadyH.cons (o := ⟨some 82, .call { callee := .value (.func 20), args := #[.tmp 80, .tmp 81], argTypes := #[22, 23] }, _, _, _, _⟩) rfl (fun K hK => ?_) AllReadyH.nil
      go_simp
      refine (cut_v p5 n5 c5 _ _ _ _ [3, 2] Vb33 (sl_row (G5.out.ext (Ext.trans E1.out (Ext.trans E2.out (Ext.trans E3.out (Ext.trans E4.out (Ext.trans E5.out (Ext.trans E6.out (Ext.trans E7.out (Ext.trans E22.out (Ext.trans E23.out (Ext.trans E24.out (Ext.trans E32.out E33.out))))))))))))) (sl_row (F81.out.ext (Ext.refl _))) HN5.out).mono ?_
      rintro e Vb34 ⟨⟨v34, rfl, hs34⟩, hx34⟩
      have E34 := Lib.hid hx34
      rw [h_cut] at hs34
      obtain ⟨p82, n82, c82, rfl, hn82⟩ := sl_form hs34
      have F82 := Lib.hid hs34
      clear hs34 hn82
      clear hx34
      go_wp2_with fail
      refine hK.out _ _ (HSE.out _ (Ext.trans E1.out (Ext.trans E2.out (Ext.trans E3.out (Ext.trans E4.out (Ext.trans E5.out (Ext.trans E6.out (Ext.trans E7.out (Ext.trans E22.out (Ext.trans E23.out (Ext.trans E24.out (Ext.trans E32.out (Ext.trans E33.out E34.out))))))))))))) (fun _ => ?_)
      clear hK K
      try simp only [Act.put, List.setIfInBounds_toArray, List.set_cons_zero, List.set_cons_succ]
      refine wpAnyH_ready (rs := [51]) (by kernel_rfl) (by simp) ?_
      refine AllReadyH.cons (o := ⟨some 85, .call { callee := .value (.func 13), args := #[.tmp 82, .tmp 84], argTypes := #[22, 22] }, _, _, _, _⟩) rfl (fun K hK => ?_) AllReadyH.nil
      go_simp
      refine (rsame_t (F82.out.ext (Ext.refl _)) (F84.out.ext (Ext.trans E33.out E34.out)) rfl).mono ?_
      rintro e Vb35 ⟨rfl, hx35⟩
      have E35 := Lib.hid hx35
      clear hx35
      go_wp2_with fail
      refine hK.out _ _ (HSE.out _ (Ext.trans E1.out (Ext.trans E2.out (Ext.trans E3.out (Ext.trans E4.out (Ext.trans E5.out (Ext.trans E6.out (Ext.trans E7.out (Ext.trans E22.out (Ext.trans E23.out (Ext.trans E24.out (Ext.trans E32.out (Ext.trans E33.out (Ext.trans E34.out E35.out)))))))))))))) (fun _ => ?_)
      clear hK K
      try simp only [Act.put, List.setIfInBounds_toArray, List.set_cons_zero, List.set_cons_succ]
      refine wpAnyH_take (i := 52) (oi := ⟨some 86, _, _, _, _, _⟩) (v := .bool true) rfl (by kernel_rfl) (by kernel_rfl) (by kernel_rfl) (fun _ _ _ h => h) (Or.inl ⟨by rfl, ?_⟩) (HSE.out _ (Ext.trans E1.out (Ext.trans E2.out (Ext.trans E3.out (Ext.trans E4.out (Ext.trans E5.out (Ext.trans E6.out (Ext.trans E7.out (Ext.trans E22.out (Ext.trans E23.out (Ext.trans E24.out (Ext.trans E32.out (Ext.trans E33.out (Ext.trans E34.out E35.out)))))))))))))) ?_
      · rintro w' ⟨s0, s1, s2, s3, s4, s5, s6, s7, s8, s9, s10, s11, s12, s13, s14, s15, s16, s17, s18, s19⟩
        go_simp
      try simp only [Act.put, List.setIfInBounds_toArray, List.set_cons_zero, List.set_cons_succ]
      refine wpAnyH_take (i := 53) (oi := ⟨some 0, _, _, _, _, _⟩) (v := .bool true) rfl (by kernel_rfl) (by kernel_rfl) (by kernel_rfl) (fun _ _ _ h => h) (Or.inl ⟨by rfl, ?_⟩) (HSE.out _ (Ext.trans E1.out (Ext.trans E2.out (Ext.trans E3.out (Ext.trans E4.out (Ext.trans E5.out (Ext.trans E6.out (Ext.trans E7.out (Ext.trans E22.out (Ext.trans E23.out (Ext.trans E24.out (Ext.trans E32.out (Ext.trans E33.out (Ext.trans E34.out E35.out)))))))))))))) ?_
      · rintro w' ⟨s0, s1, s2, s3, s4, s5, s6, s7, s8, s9, s10, s11, s12, s13, s14, s15, s16, s17, s18, s19⟩
        go_simp
      try simp only [Act.put, List.setIfInBounds_toArray, List.set_cons_zero, List.set_cons_succ]
      refine wpAnyH_done (by kernel_rfl) ?_ _
      go_wp2
      go_ret
      exact ⟨rfl, Ext.trans HFIN.out (Ext.trans E1.out (Ext.trans E2.out (Ext.trans E3.out (Ext.trans E4.out (Ext.trans E5.out (Ext.trans E6.out (Ext.trans E7.out (Ext.trans E22.out (Ext.trans E23.out (Ext.trans E24.out (Ext.trans E32.out (Ext.trans E33.out (Ext.trans E34.out E35.out)))))))))))))⟩
end Go.Proofs.Ytifbmkcfgpfefaa.Wi
