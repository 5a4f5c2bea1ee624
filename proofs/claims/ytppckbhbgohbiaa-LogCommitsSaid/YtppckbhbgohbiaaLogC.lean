/- Logs: the document's own Alike; rows of entries that are the same. -/
import Derived.Test.YtppckbhbgohbiaaLogB
import Derived.Deep.QuietTactic
namespace Go.Proofs.Ytppckbhbgohbiaa.Lg
open Go.RowKit Go.Proofs.Ytppckbhbgohbiaa
set_option linter.unusedVariables false

theorem box2 (w : World) (A B : Array Value) (T U : TypeId) : (∀ i, ((w.alloc (.cells A T)).alloc (.cells B U)).cell? ⟨w.heap.size, i, none⟩ = A[i]?) ∧ (∀ i, ((w.alloc (.cells A T)).alloc (.cells B U)).cell? ⟨w.heap.size + 1, i, none⟩ = B[i]?) := by
  refine ⟨fun i => ?_, fun i => ?_⟩
  · have h : ((w.alloc (.cells A T)).alloc (.cells B U)).heap[w.heap.size]? = some (.cells A T (0, 0)) := by
      rw [Below.heap_alloc _ _ _ (by simp), heap_alloc_new]
    exact cell_of_row _ _ _ _ _ _ h
  · have h : ((w.alloc (.cells A T)).alloc (.cells B U)).heap[w.heap.size + 1]? = some (.cells B U (0, 0)) := by
      have := heap_alloc_new (w.alloc (.cells A T)) (.cells B U)
      simpa using this
    exact cell_of_row _ _ _ _ _ _ h

theorem ints_eq {xs ys : List Int} (h : xs.length = ys.length) (h2 : ∀ j, j < xs.length → at0 xs j = at0 ys j) : xs = ys := by
  apply List.ext_getElem h
  intro j hj hj2
  have := h2 j hj
  simpa [at0, List.getD_eq_getElem?_getD, hj, hj2] using this

def RAlikeR (w2 : World) (l k : List Int) (n : Nat) (i : Value) (wr : World) : Prop :=
  ∃ j : Nat, i = .int .i64 j ∧ j ≤ n ∧ Hid (∀ s, s < j → at0 l s = at0 k s) ∧ Ext w2 wr

set_option maxRecDepth 100000 in
set_option maxHeartbeats 2000000 in
theorem ralike_any (x y : Ent) (p q : Option Addr) (n c m d : Nat) (w : World) (hl : (Lay.int .u8).Row w p n x.2) (hk : (Lay.int .u8).Row w q m y.2) :
    Calls Try.prog 28 #[.agg #[.int .i64 x.1, .slice p n c], .agg #[.int .i64 y.1, .slice q m d]] w fun e w' => e = .returned (.bool (decide (x = y))) ∧ Ext w w' := by
  obtain ⟨t, l⟩ := x
  obtain ⟨u, k⟩ := y
  simp only at hl hk ⊢
  by_cases h1 : t = u
  · subst h1
    have he : decide ((t, l) = (t, k)) = decide (l = k) := by simp
    have hq : (t != t) = false := by simp
    rw [he]
    clear he
    by_cases hnm : n = m
    · subst hnm
      have HP := Lib.hid hl.ints.1
      have HQ := Lib.hid hk.ints.1
      have hn := hl.2.1
      have hb : ((n : Int) != (n : Int)) = false := by simp
      have B2 := box2 w #[.int .i64 t, .slice p n c] #[.int .i64 t, .slice q n d] 34 34
      have b1 : Hid (∀ w', Ext ((w.alloc (.cells #[.int .i64 t, .slice p n c] 34)).alloc (.cells #[.int .i64 t, .slice q n d] 34)) w' → w'.cell? ⟨w.heap.size, 1, none⟩ = some (.slice p n c) ∧ w'.cell? ⟨w.heap.size + 1, 1, none⟩ = some (.slice q n d)) := Lib.hid fun w' hx => ⟨hx.cell (B2.1 1), hx.cell (B2.2 1)⟩
      have X2 : Ext w ((w.alloc (.cells #[.int .i64 t, .slice p n c] 34)).alloc (.cells #[.int .i64 t, .slice q n d] 34)) := Ext.trans (Ext.alloc _ _) (Ext.alloc _ _)
      clear hl hk B2
      go_enter Try.func28, Try.ntmps28
      go_wp2
      go_loopw [5] (fun i wr => RAlikeR ((w.alloc (.cells #[.int .i64 t, .slice p n c] 34)).alloc (.cells #[.int .i64 t, .slice q n d] 34)) l k n i wr) (fun i _ => n - (intOf i).toNat)
      case atStart => exact ⟨0, rfl, by omega, Lib.hid (by intro j hj; omega), Ext.refl _⟩
      case round =>
        obtain ⟨j, rfl, hj, HE, hx⟩ := hrel
        obtain ⟨e1, e2⟩ := b1.out wr hx
        by_cases hlt : j < n
        · obtain ⟨b, off, rfl, hc⟩ := HP.out.2.2 (by omega)
          obtain ⟨b2, off2, rfl, hc2⟩ := HQ.out.2.2 (by omega)
          have hlt' : (j : Int) < (n : Int) := by omega
          have hlt0 : (0 : Int) ≤ (j : Int) := by omega
          have cx := (Ext.trans X2 hx).cell (hc j hlt)
          have cy := (Ext.trans X2 hx).cell (hc2 j hlt)
          clear hc hc2
          by_cases he : at0 l j = at0 k j
          · have hb : (at0 l j != at0 k j) = false := by simp [he]
            have HE1 := Lib.hid he
            clear he
            go_wp2
            go_quiet (fail)
            go_wp2
            go_roundw
            case rel => exact ⟨j + 1, by go_num, by omega, Lib.hid (fun s hs => by
              by_cases e : s = j
              · subst e; exact HE1.out
              · exact HE.out s (by omega)), Ext.drewN hx _⟩
            case measure => simp [intOf]; omega
          · have hb : (at0 l j != at0 k j) = true := by simp [he]
            have HE1 := Lib.hid he
            clear he
            go_wp2
            go_quiet (fail)
            go_wp2
            go_ret
            exact ⟨ret_bool (decide_eq_false (fun h => HE1.out (by rw [h]))).symm, Ext.drewN (Ext.trans X2 hx) _⟩
        · obtain rfl : j = n := by omega
          go_wp2
          go_ret
          exact ⟨ret_bool (decide_eq_true (ints_eq (by rw [HP.out.1, HQ.out.1]) (fun s hs => HE.out s (by rw [HP.out.1] at hs; exact hs)))).symm, Ext.trans X2 hx⟩
    · have hb : ((n : Int) != (m : Int)) = true := by simp; omega
      have hf : decide (l = k) = false := decide_eq_false (fun e => hnm (by rw [← hl.1, ← hk.1, e]))
      rw [hf]
      clear hl hk hf
      go_enter Try.func28, Try.ntmps28
      go_wp2
      go_ret
      exact ⟨rfl, Ext.trans (Ext.alloc _ _) (Ext.alloc _ _)⟩
  · have he : decide ((t, l) = (u, k)) = false := by simp [h1]
    have hq : (t != u) = true := by simp [h1]
    rw [he]
    clear he hl hk
    go_enter Try.func28, Try.ntmps28
    go_wp2
    go_ret
    exact ⟨rfl, Ext.trans (Ext.alloc _ _) (Ext.alloc _ _)⟩
end Go.Proofs.Ytppckbhbgohbiaa.Lg
