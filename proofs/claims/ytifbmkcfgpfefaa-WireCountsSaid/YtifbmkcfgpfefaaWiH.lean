/- Messages: a copy of a row. -/
import Derived.Test.YtifbmkcfgpfefaaWiC
import Derived.WalkSpells
namespace Go.Proofs.Ytifbmkcfgpfefaa.Wi
open Go.RowKit Go.Proofs.Ytifbmkcfgpfefaa
set_option linter.unusedVariables false
set_option maxRecDepth 100000 in
set_option maxHeartbeats 4000000 in
theorem clone_v (u : Value) (l : List Mg) (w : World) (hu : LMg.Sl w u l) (hn : l.length ≤ 100000) : Calls Try.prog 26 #[u] w fun e w' => (∃ v, e = .returned v ∧ LMg.Own w' w.heap.size 26 v l) ∧ Ext w w' := by
  obtain ⟨i0, hi0, hzi0, hzi1, hzi2⟩ := info_parts info_mg
  obtain ⟨p, n, c, rfl, hl, hnc, hcm, hpl⟩ := hu
  have HP := Lib.hid hl
  have HPL := Lib.hid hpl
  have HN : Hid (n ≤ 100000) := Lib.hid (by rw [← hl.1]; exact hn)
  clear hpl hn
  have hnil := fun (a : Option Addr) (n c : Nat) (w : World) => Lib.run_eql_slice_nil (P := Try.prog) w 22 26 a n c 0 0 Try.underlying22
  cases p with
  | none =>
    have h0 : c = 0 := by
      by_cases h : 0 < c
      · obtain ⟨b, off, e⟩ := HPL.out h; cases e
      · omega
    have hn0 : n = 0 := by omega
    obtain rfl : l = [] := List.eq_nil_of_length_eq_zero (by rw [hl.1, hn0])
    clear hl
    subst h0
    subst hn0
    go_enter Try.func26, Try.ntmps26
    go_wp2
    go_ret
    exact ⟨⟨_, rfl, Lay.Own.nil _ _ _ _⟩, Ext.refl _⟩
  | some a =>
    clear hl
    have HL0 : Hid (LMg.Own (w.alloc (.cells #[] 26)) w.heap.size 26 (.slice (some ⟨w.heap.size, 0, none⟩) 0 0) []) := Lib.hid (Lay.Own.made w #[] 0 w.heap.size 26 (Nat.le_refl _) (by decide) rfl)
    go_enter Try.func26, Try.ntmps26
    go_wp2_with (at_builtin; refine Lay.wpList_append (E := LMg) rfl (.tmp 5) (.tmp 6) 22 rfl w.heap.size 26 i0 (.agg #[.int .i64 0, .int .i64 0, .int .i64 0, .slice none 0 0, .slice none 0 0]) 72 Try.underlying22 hi0 hzi0 hzi1 hzi2 rfl _ ([]) rfl HL0.out (some a) n c l rfl HPL.out (by omega) (HP.out.keep (Ext.alloc _ _) (by intro k hk; cases hk; exact Nat.le_refl _)) (by have := HN.out; unfold maxLen; simp; omega) (by have := HN.out; simp; omega) (by simp) ?_; intro v2 w3 hown2 hg2)
    have X3 := Lib.hid (HL0.out.below (Ext.alloc _ _) (Nat.le_refl _) hg2)
    have HO := Lib.hid hown2
    clear hown2 hg2
    go_wp2
    go_ret
    exact ⟨⟨_, rfl, HO.out⟩, X3.out⟩

end Go.Proofs.Ytifbmkcfgpfefaa.Wi
