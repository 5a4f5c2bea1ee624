/- Written bytes: a row of bytes of one's own. -/
import Derived.Test.YtcajmgdenhegjaaWrE
import Derived.Test.YtcajmgdenhegjaaPlain
import Derived.WalkSpells
namespace Go.Proofs.Ytcajmgdenhegjaa.Wr
open Go.RowKit Go.Proofs.Ytcajmgdenhegjaa
set_option linter.unusedVariables false

theorem info_u8 : (Try.prog.info? 5).map (fun i => (i.zero, i.size, i.bytes)) = some (some (.int .u8 0), (Lay.int .u8).size, 1) := by kernel_rfl
theorem plain_u8 : (Lay.int .u8).Plain := Lay.PlainR.plain fun _ _ _ _ h => h
set_option maxRecDepth 100000 in
set_option maxHeartbeats 4000000 in
theorem clone_v (u : Value) (l : List Int) (w : World) (hu : (Lay.int .u8).Sl w u l) (hn : l.length ≤ 100000) : Calls Try.prog 33 #[u] w fun e w' => (∃ v, e = .returned v ∧ (Lay.int .u8).Own w' w.heap.size 5 v l) ∧ Ext w w' := by
  obtain ⟨i0, hi0, hzi0, hzi1, hzi2⟩ := info_parts info_u8
  obtain ⟨p, n, c, rfl, hl, hnc, hcm, hpl⟩ := hu
  have HP := Lib.hid hl
  have HPL := Lib.hid hpl
  have HN : Hid (n ≤ 100000) := Lib.hid (by rw [← hl.1]; exact hn)
  clear hpl hn
  have hnil := fun (a : Option Addr) (n c : Nat) (w : World) => Lib.run_eql_slice_nil (P := Try.prog) w 23 5 a n c 0 0 Try.underlying23
  cases p with
  | none =>
    have h0 : c = 0 := by
      by_cases h : 0 < c
      · obtain ⟨b, off, e⟩ := HPL.out h; cases e
      · omega
    have hn0 : n = 0 := by omega
    obtain rfl : l = [] := List.eq_nil_of_length_eq_zero (by rw [hl.1, hn0])
    clear hl
    subst h0
    subst hn0
    go_enter Try.func33, Try.ntmps33
    go_wp2
    go_ret
    exact ⟨⟨_, rfl, Lay.Own.nil _ _ _ _⟩, Ext.refl _⟩
  | some a =>
    clear hl
    go_enter Try.func33, Try.ntmps33
    go_wp2_with (at_builtin; refine Lay.wpList_append (E := (Lay.int .u8)) rfl (.tmp 5) (.tmp 6) 23 rfl w.heap.size 5 i0 (.int .u8 0) 1 Try.underlying23 hi0 hzi0 hzi1 hzi2 rfl _ ([]) rfl (plain_u8.own_lit w #[] _ w.heap.size 0 [] (Nat.le_refl _) rfl rfl (by decide)) (some a) n c l rfl HPL.out (by omega) (HP.out.keep (Ext.alloc _ _) (by intro k hk; cases hk; exact Nat.le_refl _)) (by have := HN.out; unfold maxLen; simp; omega) (by have := HN.out; simp; omega) (by simp) ?_; intro v2 w3 hown2 hg2)
    have X3 := Lib.hid ((plain_u8.own_lit w #[] 5 w.heap.size 0 [] (Nat.le_refl _) rfl rfl (by decide)).below (Ext.alloc _ _) (Nat.le_refl _) hg2)
    have HO := Lib.hid hown2
    clear hown2 hg2
    go_wp2
    go_ret
    exact ⟨⟨_, rfl, HO.out⟩, X3.out⟩
end Go.Proofs.Ytcajmgdenhegjaa.Wr
