/- The document's own answer: Blocks. -/
import Derived.Test.YtgjkbkiehfpjcaaSumH
namespace Go.Proofs.Ytgjkbkiehfpjcaa.Sm
open Go.RowKit Go.Proofs.Ytgjkbkiehfpjcaa Go.Proofs.Ytgjkbkiehfpjcaa.Crc
set_option linter.unusedVariables false

def bvals (l : List Nat) (k : Nat) : List Value := (List.range k).map fun i => Value.int .i64 (bsum l i : Nat)
theorem bvals_succ (l : List Nat) (k : Nat) : bvals l (k + 1) = bvals l k ++ [.int .i64 (bsum l k : Nat)] := by simp [bvals, List.range_succ]
def RBlocksR (w : World) (l : List Nat) (m : Nat) (v i : Value) (wr : World) : Prop :=
  ∃ k : Nat, i = .int .i64 (16 * (k : Int)) ∧ k ≤ m ∧ wr.ownsRow w.heap.size 3 1 v k (bvals l k) ∧ Ext w wr

set_option maxRecDepth 100000 in
set_option maxHeartbeats 4000000 in
theorem rblocks_any (p : Option Addr) (n c : Nat) (l : List Nat) (w : World) (hp : RowB w p n l) (hn : n ≤ 1000000) (hc : n ≤ c) :
    Calls Try.prog 14 #[.slice p n c] w fun e w' => (∃ v, e = .returned v ∧ w'.ownsRow w.heap.size 3 1 v (bsums l).length ((bsums l).map (.int .i64))) ∧ Ext w w' := by
  obtain ⟨i0, hi0, hz0, hz1, hz2⟩ := info_parts info_int
  have HP := Lib.hid hp
  clear hp
  obtain ⟨m, hm⟩ : ∃ m, m = (n + 15) / 16 := ⟨_, rfl⟩
  have HM := Lib.hid hm
  have hm1 : m ≤ 1000000 := by omega
  clear hm
  go_enter Try.func14, Try.ntmps14
  go_wp2
  go_loopw [3, 4] (fun v i wr => RBlocksR w l m v i wr) (fun _ i _ => n + 16 - (intOf i).toNat)
  case atStart => exact ⟨0, rfl, by omega, World.ownsRow_nil _ _ _ _, Ext.refl _⟩
  case round =>
    obtain ⟨k, rfl, hk, hown, hx⟩ := hrel
    have HO := Lib.hid hown
    clear hown
    have hmm := HM.out
    by_cases hlt : 16 * k < n
    · obtain ⟨b, off, rfl, _⟩ := HP.out.cells (by omega)
      have hlt' : 16 * (k : Int) < (n : Int) := by omega
      have hlt0 : 0 ≤ 16 * (k : Int) := by omega
      have hbs : sum (List.take (min 16 (n - 16 * k)) (List.drop (16 * k) l)) = bsum l k := by unfold bsum blk; rw [HP.out.length]
      by_cases h16 : 16 * k + 16 ≤ n
      · have g1 : 16 * (k : Int) + 16 ≤ (n : Int) := by omega
        have g2 : ¬ (n : Int) < 16 * (k : Int) + 16 := by omega
        have g3 : 16 * (k : Int) + 16 ≤ (c : Int) := by omega
        have hsub := (HP.out.ext hx).sub (16 * k) 16 (by omega)
        rw [show min 16 (n - 16 * k) = 16 by omega] at hbs
        have HS := Lib.hid hsub
        have HBS := Lib.hid hbs
        have HK1 : Hid (k + 1 ≤ m) := Lib.hid (by omega)
        clear hsub hbs hmm
        go_wp2_with fail
        refine (rof_any _ _ _ _ _ HS.out).mono ?_
        rintro e w2 ⟨rfl, rfl⟩
        rw [HBS.out]
        have HA := Lib.hid (own_ext HO.out (Ext.alloc wr (.cells #[.int .i64 (bsum l k : Nat)] 3)))
        go_wp2_with (at_builtin; refine wpList_append_src rfl (.tmp 11) (.tmp 21) 23 rfl w.heap.size 3 i0 (.int .i64 0) 1 8 Try.underlying23 hi0 hz0 hz1 hz2 rfl (by decide) _ _ _ rfl HA.out (some ⟨wr.heap.size, 0, none⟩) 1 1 [.int .i64 (bsum l k : Nat)] rfl rfl (fun h => by cases h) (fun ad h => by cases h; exact World.news_of_block (cs := #[.int .i64 (bsum l k : Nat)]) (heap_alloc_new _ _)) (by intro u hu; simp at hu; subst hu; rfl) (by unfold maxLen; omega) (by omega) (by have := hx.size; simp; omega) ?_; intro v1 w1 hown1 hgrow)
        have X : Ext w w1 := below_grown (Ext.trans hx (Ext.alloc _ _)) (Nat.le_refl _) hgrow HA.out
        have HO1 := Lib.hid hown1
        clear hgrow hown1 HA
        go_wp2
        go_roundw
        case rel => exact ⟨k + 1, by go_num, HK1.out, by rw [bvals_succ]; exact HO1.out, X⟩
        case measure => simp [intOf]; omega
      · have g1 : (n : Int) < 16 * (k : Int) + 16 := by omega
        have g3 : (n : Int) ≤ (c : Int) := by omega
        have hsub := (HP.out.ext hx).sub (16 * k) (n - 16 * k) (by omega)
        rw [show min 16 (n - 16 * k) = n - 16 * k by omega] at hbs
        have HS := Lib.hid hsub
        have HBS := Lib.hid hbs
        have HK1 : Hid (k + 1 ≤ m) := Lib.hid (by omega)
        clear hsub hbs hmm
        go_wp2_with fail
        refine (rof_any _ _ _ _ _ HS.out).mono ?_
        rintro e w2 ⟨rfl, rfl⟩
        rw [HBS.out]
        have HA := Lib.hid (own_ext HO.out (Ext.alloc wr (.cells #[.int .i64 (bsum l k : Nat)] 3)))
        go_wp2_with (at_builtin; refine wpList_append_src rfl (.tmp 11) (.tmp 21) 23 rfl w.heap.size 3 i0 (.int .i64 0) 1 8 Try.underlying23 hi0 hz0 hz1 hz2 rfl (by decide) _ _ _ rfl HA.out (some ⟨wr.heap.size, 0, none⟩) 1 1 [.int .i64 (bsum l k : Nat)] rfl rfl (fun h => by cases h) (fun ad h => by cases h; exact World.news_of_block (cs := #[.int .i64 (bsum l k : Nat)]) (heap_alloc_new _ _)) (by intro u hu; simp at hu; subst hu; rfl) (by unfold maxLen; omega) (by omega) (by have := hx.size; simp; omega) ?_; intro v1 w1 hown1 hgrow)
        have X : Ext w w1 := below_grown (Ext.trans hx (Ext.alloc _ _)) (Nat.le_refl _) hgrow HA.out
        have HO1 := Lib.hid hown1
        clear hgrow hown1 HA
        go_wp2
        go_roundw
        case rel => exact ⟨k + 1, by go_num, HK1.out, by rw [bvals_succ]; exact HO1.out, X⟩
        case measure => simp [intOf]; omega
    · obtain rfl : k = m := by omega
      clear hmm
      go_wp2
      go_ret
      refine ⟨⟨_, rfl, ?_⟩, hx⟩
      have h := HO.out
      have e : bvals l k = (bsums l).map (.int .i64) := by unfold bvals bsums; rw [HP.out.length, ← HM.out, List.map_map]; rfl
      rw [bsums_length, HP.out.length, ← HM.out, ← e]
      exact h
end Go.Proofs.Ytgjkbkiehfpjcaa.Sm
