/- The walk of SumEven. -/
import Derived.Test.YtgjkbkiehfpjcaaSumD
import Derived.Test.YtgjkbkiehfpjcaaSlice
import Derived.BigRegion
namespace Go.Proofs.Ytgjkbkiehfpjcaa.Sm
open Go.RowKit Go.Proofs.Ytgjkbkiehfpjcaa Go.Proofs.Ytgjkbkiehfpjcaa.Crc
set_option linter.unusedVariables false
attribute [local go_sem high] run_min4

def xor3 (a b c : List Nat) (i : Nat) : Nat := a.getD i 0 ^^^ b.getD i 0 ^^^ c.getD i 0
theorem xor3_zip (a b c : List Nat) (k : Nat) (ha : k ≤ a.length) (hb : k ≤ b.length) (hc : k ≤ c.length) :
    (List.range k).map (xor3 a b c) = List.zipWith (fun x y => x ^^^ y) (List.zipWith (fun x y => x ^^^ y) (a.take k) (b.take k)) (c.take k) := by
  apply List.ext_getElem?
  intro i
  by_cases h : i < k
  · rw [List.getElem?_zipWith, List.getElem?_zipWith]
    simp [h, xor3, List.getElem?_eq_getElem (show i < a.length by omega), List.getElem?_eq_getElem (show i < b.length by omega), List.getElem?_eq_getElem (show i < c.length by omega), List.getD_eq_getElem?_getD]
  · rw [List.getElem?_eq_none (by simp; omega), List.getElem?_eq_none (by simp; omega)]

def EvenR (w : World) (a b c : List Nat) (B n : Nat) (i : Value) (wr : World) : Prop :=
  ∃ k : Nat, i = .int .i64 k ∧ k ≤ n ∧ wr.ownsRow w.heap.size 5 1 (.slice (some ⟨B, 0, none⟩) n n) n (fillK n k (fun i => .int .u8 (xor3 a b c i)) (.int .u8 0)) ∧ Ext w wr

theorem rowB_take {w : World} {p : Option Addr} {n : Nat} {l : List Nat} (h : RowB w p n l) (k : Nat) (hk : k ≤ n) : RowB w p k (l.take k) := by
  have hl := h.length
  refine ⟨⟨by simp; omega, by have := h.le; omega, fun h0 => ?_⟩, fun c hc => h.2 c (List.mem_of_mem_take hc)⟩
  obtain ⟨b, off, hp, hc⟩ := h.cells (by omega)
  refine ⟨b, off, hp, fun j hj => ?_⟩
  rw [hc j (by omega), at0_map]
  simp [List.getD_eq_getElem?_getD, hj]

theorem u8x {a b : Nat} (ha : a < 256) (hb : b < 256) : bits .xor .u8 (a : Int) (b : Int) = ((a ^^^ b : Nat) : Int) := u8_xor_nat a b ha hb

set_option maxRecDepth 100000 in
set_option maxHeartbeats 8000000 in
theorem even_walk {p q r : Option Addr} {n1 n2 n3 c1 c2 c3 : Nat} {a b c : List Nat} {w : World} (hp : RowB w p n1 a) (hq : RowB w q n2 b) (hr : RowB w r n3 c) (l1 : n1 ≤ c1) (l2 : n2 ≤ c2) (l3 : n3 ≤ c3) (pl1 : Pl p c1) (pl2 : Pl q c2) (pl3 : Pl r c3) :
    Calls Try.prog 5 #[.slice p n1 c1, .slice q n2 c2, .slice r n3 c3] w fun e w' => e = .returned (.bool true) ∧ Ext w w' := by
  have HP := Lib.hid hp
  have HQ := Lib.hid hq
  have HR := Lib.hid hr
  have b1 := hp.le
  have b2 := hq.le
  have b3 := hr.le
  clear hp hq hr
  obtain ⟨n, hn⟩ : ∃ n : Nat, min (n1 : Int) (min (n2 : Int) (min (n3 : Int) 400)) = (n : Int) := ⟨min (min (min n1 n2) n3) 400, by omega⟩
  have s1 : n ≤ n1 := by omega
  have s2 : n ≤ n2 := by omega
  have s3 : n ≤ n3 := by omega
  have s4 : n ≤ 400 := by omega
  have hmk := fun w => make_u8 n (by omega) w
  have hsz : (Try.prog.info? 5).map (·.size) = some 1 := by kernel_rfl
  have SL1 := Lib.hid (fun w => run_slice_to Try.underlying22 hsz p n1 c1 n (by omega) pl1 w)
  have SL2 := Lib.hid (fun w => run_slice_to Try.underlying22 hsz q n2 c2 n (by omega) pl2 w)
  have SL3 := Lib.hid (fun w => run_slice_to Try.underlying22 hsz r n3 c3 n (by omega) pl3 w)
  clear hsz pl1 pl2 pl3
  go_enter Try.func5, Try.ntmps5
  go_wp2_with fail
  refine (head_any _).mono ?_
  rintro e w1 ⟨rfl, hx⟩
  go_wp2
  go_loopw [10] (fun i wr => EvenR w1 a b c w1.heap.size n i wr) (fun i _ => n - (intOf i).toNat)
  case atStart =>
    refine ⟨0, rfl, by omega, ?_, Ext.alloc _ _⟩
    have h := World.ownsRow_lit (base := w1.heap.size) (e := 5) (size := 1) w1 (madeCells #[.int .u8 0] n) n (Nat.le_refl _) (by unfold maxLen; omega) (by rw [size_madeCells]; omega)
    rw [toList_madeCells_one, ← fillK_zero n (fun i => .int .u8 (xor3 a b c i))] at h
    exact h
  case round =>
    obtain ⟨k, rfl, hk, hown, hx1⟩ := hrel
    have HO := Lib.hid hown
    clear hown hmk hn
    by_cases hlt : k < n
    · obtain ⟨b1', o1, rfl, k1⟩ := HP.out.cells (by omega)
      obtain ⟨b2', o2, rfl, k2⟩ := HQ.out.cells (by omega)
      obtain ⟨b3', o3, rfl, k3⟩ := HR.out.cells (by omega)
      have x1 := (Ext.trans hx hx1).cell (k1 k (by omega))
      have x2 := (Ext.trans hx hx1).cell (k2 k (by omega))
      have x3 := (Ext.trans hx hx1).cell (k3 k (by omega))
      clear k1 k2 k3
      have h0 : (0 : Int) ≤ (k : Int) := by omega
      have h1 : (k : Int) < (n1 : Int) := by omega
      have h2 : (k : Int) < (n2 : Int) := by omega
      have h3 : (k : Int) < (n3 : Int) := by omega
      have h4 : (k : Int) < (n : Int) := by omega
      have y1 := byte_lt HP.out.2 k
      have y2 := byte_lt HQ.out.2 k
      have y3 := byte_lt HR.out.2 k
      have cg := (HO.out.cellAt k (by omega)).trans (fillK_get _ _ _ _ k hlt)
      have fg := HO.out.frozenAt k
      have hst := (HO.out.stored k (.int .u8 (xor3 a b c k))).1
      rw [fillK_set n k (fun i => .int .u8 (xor3 a b c i)) (.int .u8 0) hlt] at hst
      have HST := Lib.hid hst
      clear hst
      have hx3 : a.getD k 0 ^^^ b.getD k 0 ^^^ c.getD k 0 = xor3 a b c k := rfl
      have z1 := u8x y1 y2
      have z2 := u8x (a := a.getD k 0 ^^^ b.getD k 0) (Nat.xor_lt_two_pow (n := 8) y1 y2) y3
      rw [hx3] at z2
      generalize a.getD k 0 ^^^ b.getD k 0 = q1 at z1 z2
      generalize a.getD k 0 = a1 at x1 z1
      generalize b.getD k 0 = a2 at x2 z1
      generalize c.getD k 0 = a3 at x3 z2
      generalize xor3 a b c k = q2 at z2 HST
      clear hx3 y1 y2 y3
      go_wp2
      go_region
      go_wp2
      go_roundw
      case rel => exact ⟨k + 1, by go_num, by omega, HST.out, (Ext.drew hx1).setCell (Nat.le_refl _) _⟩
      case measure => simp [intOf]; omega
    · have hkn : k = n := by omega
      subst hkn
      have hall : Hid (fillK k k (fun i => .int .u8 (xor3 a b c i)) (.int .u8 0) = ((List.range k).map (xor3 a b c)).map fun x : Nat => Value.int .u8 (x : Int)) := by rw [fillK_all, List.map_map]; exact Lib.hid rfl
      have R0 : Hid (∀ w', Ext wr w' → RowB w' (some ⟨w1.heap.size, 0, none⟩) k ((List.range k).map (xor3 a b c))) := Lib.hid fun w' h' => by
        have ho := own_ext HO.out h'
        rw [hall.out] at ho
        obtain ⟨pp, cc, hv, hr⟩ := rowI_of_own (k := .u8) (zs := ((List.range k).map (xor3 a b c)).map fun x : Nat => (x : Int)) (by rw [List.map_map]; exact ho) (by omega)
        simp only [Value.slice.injEq] at hv
        obtain ⟨rfl, _, rfl⟩ := hv
        refine ⟨hr, fun x hx => ?_⟩
        obtain ⟨i, _, rfl⟩ := List.mem_map.1 hx
        exact Nat.xor_lt_two_pow (n := 8) (Nat.xor_lt_two_pow (n := 8) (byte_lt HP.out.2 i) (byte_lt HQ.out.2 i)) (byte_lt HR.out.2 i)
      have R1 : Hid (∀ w', Ext wr w' → RowB w' p k (a.take k)) := Lib.hid fun w' h' => rowB_take (HP.out.ext (Ext.trans (Ext.trans hx hx1) h')) k s1
      have R2 : Hid (∀ w', Ext wr w' → RowB w' q k (b.take k)) := Lib.hid fun w' h' => rowB_take (HQ.out.ext (Ext.trans (Ext.trans hx hx1) h')) k s2
      have R3 : Hid (∀ w', Ext wr w' → RowB w' r k (c.take k)) := Lib.hid fun w' h' => rowB_take (HR.out.ext (Ext.trans (Ext.trans hx hx1) h')) k s3
      clear hall
      have hxx : Ext wr wr.drew := Ext.drew (Ext.refl _)
      have g0 : (0 : Int) ≤ (k : Int) := by omega
      have g1 : (k : Int) ≤ (c1 : Int) := by omega
      have g2 : (k : Int) ≤ (c2 : Int) := by omega
      have g3 : (k : Int) ≤ (c3 : Int) := by omega
      have sl1 := SL1.out
      have sl2 := SL2.out
      have sl3 := SL3.out
      go_wp2
      go_region_held3 (fun _ => True) (trivial) ((go_at_call 10; (first | (with_reducible refine (of_any _ _ _ _ _ (R0.out _ hxx)).mono ?_) | (with_reducible refine (of_any _ _ _ _ _ (R1.out _ hxx)).mono ?_) | (with_reducible refine (of_any _ _ _ _ _ (R2.out _ hxx)).mono ?_) | (with_reducible refine (of_any _ _ _ _ _ (R3.out _ hxx)).mono ?_)); rintro e w2 ⟨rfl, hx2⟩; replace hxx := Ext.trans hxx hx2; clear hx2))
      go_wp2
      go_ret
      refine ⟨ret_bool ?_, Ext.trans (Ext.trans hx hx1) hxx⟩
      have q1 := sum_lt _ (R1.out _ (Ext.refl _)).2
      have q2 := sum_lt _ (R2.out _ (Ext.refl _)).2
      have q3 := sum_lt _ (R3.out _ (Ext.refl _)).2
      rw [i64_xor_nat _ _ q1 q2, i64_xor_nat _ _ (Nat.xor_lt_two_pow (n := 32) q1 q2) q3, ← sum_three _ _ _ (by rw [(R1.out _ (Ext.refl _)).length, (R2.out _ (Ext.refl _)).length]) (by rw [(R1.out _ (Ext.refl _)).length, (R3.out _ (Ext.refl _)).length]), xor3_zip a b c k (by rw [HP.out.length]; exact s1) (by rw [HQ.out.length]; exact s2) (by rw [HR.out.length]; exact s3)]
      simp
end Go.Proofs.Ytgjkbkiehfpjcaa.Sm
