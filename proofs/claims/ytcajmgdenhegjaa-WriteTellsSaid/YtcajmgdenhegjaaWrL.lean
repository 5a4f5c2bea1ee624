/- Written bytes: the code's Lay. -/
import Derived.Test.YtcajmgdenhegjaaWrK
namespace Go.Proofs.Ytcajmgdenhegjaa.Wr
open Go.RowKit Go.Proofs.Ytcajmgdenhegjaa
set_option linter.unusedVariables false

theorem ends_iff (x : Pc) : endsB x = true ↔ 0 ≤ x.f ∧ x.e ≤ 4096 := by
  unfold endsB Pc.e
  rw [decide_eq_true_iff]
  omega
theorem sl_parts {α : Type} {E : Lay α} {w : World} {p : Option Addr} {n c : Nat} {l : List α} (h : E.Sl w (.slice p n c) l) : E.Row w p n l ∧ n ≤ c ∧ c ≤ 9223372036854775807 ∧ Pl p c := by
  obtain ⟨p', n', c', e, h1, h2, h3, h4⟩ := h
  cases e
  exact ⟨h1, h2, h3, h4⟩
theorem tri_mk {w : World} {a f : Int} {p : Option Addr} {n c : Nat} {d : List Int} (h : (Lay.int .u8).Sl w (.slice p n c) d) (ha : (Lit.int .i64 a).wf = true) (hf : (Lit.int .i64 f).wf = true) : TriC w [.int .i64 a, .int .i64 f, .slice p n c] a f d p n c := by
  obtain ⟨h1, h2, h3, h4⟩ := sl_parts h
  exact ⟨rfl, ha, hf, h1, h2, h3, h4⟩
set_option maxRecDepth 100000 in
set_option maxHeartbeats 4000000 in
theorem lay_v (u : Value) (F d : List Int) (a : Int) (p : Option Addr) (n c : Nat) (w : World) (hu : (Lay.int .u8).Sl w u F) (hd : (Lay.int .u8).Sl w (.slice p n c) d) (hF : F.length ≤ 10000) (hw : (Lit.int .i64 a).wf = true) :
    Calls Try.prog 11 #[u, .int .i64 a, .slice p n c] w fun e w' => RetLay w w' F a d e ∧ Ext w w' := by
  have HU := Lib.hid hu
  have HD := Lib.hid hd
  have HF := Lib.hid hF
  have HW := Lib.hid hw
  have hdl : d.length = n := (sl_parts hd).1.1
  have HDL := Lib.hid hdl
  have hx1 : Ext w (w.alloc (.cells #[.int .i64 0, .int .i64 a, .slice p n c] 30)) := Ext.alloc _ _
  have HX1 := Lib.hid hx1
  clear hu hd hF hw
  by_cases h0 : a < 0
  · have H0 := Lib.hid h0
    clear hdl
    go_enter Try.func11, Try.ntmps11
    go_wp2
    go_ret2
    exact ⟨⟨_, _, rfl, fun _ => ⟨rfl, rfl⟩, fun h => by have := H0.out; omega, fun h => by have := H0.out; omega⟩, HX1.out⟩
  · have H0 := Lib.hid h0
    by_cases hn : n = 0
    · have hd0 : d = [] := List.eq_nil_of_length_eq_zero (by rw [hdl, hn])
      have HD0 := Lib.hid hd0
      subst hn
      clear hdl hd0
      have HC := Lib.hid (laid_v u F [] none 0 0 _ (HU.out.ext hx1) (Lay.Row.nil _ _ _) (by simp) HF.out)
      go_enter Try.func11, Try.ntmps11
      go_wp2_with fail
      refine HC.out.mono ?_
      rintro e w2 ⟨⟨v, rfl, ho⟩, hx2⟩
      have HO := Lib.hid ho
      have HX2 := Lib.hid (Ext.trans hx1 hx2)
      clear ho hx2
      go_wp2
      go_ret2
      exact ⟨⟨_, _, rfl, fun h => by have := H0.out; omega, fun _ h => absurd HD0.out h, fun _ _ => ⟨rfl, by rw [HD0.out, rlaid_nil]; exact HO.out.base HX1.out.size⟩⟩, HX2.out⟩
    · have hn0 : 0 < n := by omega
      have hn0' : ¬ (n : Int) = 0 := by omega
      have hd0 : d ≠ [] := by intro e; rw [e] at hdl; simp at hdl; omega
      have HD0 := Lib.hid hd0
      have ht : TriC (w.alloc (.cells #[.int .i64 0, .int .i64 a, .slice p n c] 30)) [.int .i64 0, .int .i64 a, .slice p n c] 0 a d p n c := tri_mk (HD.out.ext hx1) (by decide) HW.out
      have HT := Lib.hid ht
      have hcE := ends_any ⟨0, a, d⟩ p n c _ ht
      simp only at hcE
      by_cases hE : a + (n : Int) ≤ 4096
      · have he : endsB ⟨0, a, d⟩ = true := (ends_iff _).2 ⟨by simp only; omega, by unfold Pc.e; simp only; omega⟩
        rw [he] at hcE
        have HCE := Lib.hid hcE
        have HEE := Lib.hid hE
        clear hcE he hdl hd0 ht
        go_enter Try.func11, Try.ntmps11
        go_wp2_with fail
        refine HCE.out.mono ?_
        rintro e w2 ⟨rfl, hx2⟩
        obtain ⟨f0, f1, f2⟩ := pc_box hx2
        have hx3 : Ext (w.alloc (.cells #[.int .i64 0, .int .i64 a, .slice p n c] 30)) (w2.alloc (.cells #[.int .i64 0, .int .i64 a, .slice p n c] 30)) := Ext.trans hx2 (Ext.alloc _ _)
        have HC := Lib.hid (laid_v u F [⟨0, a, d⟩] (some ⟨w2.heap.size, 0, none⟩) 1 1 _ (HU.out.ext (Ext.trans hx1 hx3)) (pcs_one 30 (HT.out.at_ hx3 a HW.out) (Ext.refl _)) (by intro x hx; simp at hx; subst hx; exact ⟨by simp only; omega, HD0.out, by unfold Pc.e; simp only; rw [HDL.out]; exact HEE.out⟩) HF.out)
        have HX3 := Lib.hid hx3
        clear hx2 hx3
        go_wp2_with fail
        refine HC.out.mono ?_
        rintro e w4 ⟨⟨v, rfl, ho⟩, hx4⟩
        have HO := Lib.hid ho
        have HX4 := Lib.hid (Ext.trans hx1 (Ext.trans HX3.out hx4))
        clear ho hx4
        go_wp2
        go_ret2
        exact ⟨⟨_, _, rfl, fun h => by have := H0.out; omega, fun _ _ h => by rw [HDL.out] at h; exact (by have := HEE.out; omega), fun _ _ => ⟨rfl, by rw [rlaid_ne _ _ HD0.out]; exact HO.out.base (Ext.trans HX1.out HX3.out).size⟩⟩, HX4.out⟩
      · have he : endsB ⟨0, a, d⟩ = false := by
          cases h : endsB ⟨0, a, d⟩
          · rfl
          · have := ((ends_iff _).1 h).2; unfold Pc.e at this; simp only at this; omega
        rw [he] at hcE
        have HCE := Lib.hid hcE
        have HEE := Lib.hid hE
        clear hcE he hdl hd0 ht
        go_enter Try.func11, Try.ntmps11
        go_wp2_with fail
        refine HCE.out.mono ?_
        rintro e w2 ⟨rfl, hx2⟩
        have HX2 := Lib.hid (Ext.trans hx1 hx2)
        clear hx2
        go_wp2
        go_ret2
        exact ⟨⟨_, _, rfl, fun h => by have := H0.out; omega, fun _ _ _ => ⟨rfl, rfl⟩, fun _ h => by have := h HD0.out; rw [HDL.out] at this; exact (by have := HEE.out; omega)⟩, HX2.out⟩
end Go.Proofs.Ytcajmgdenhegjaa.Wr
