/- Logs: the document's own Put. -/
import Derived.Test.YtppckbhbgohbiaaLogF
import Derived.Deep.QuietTactic
import Derived.Deep.RegionLaw
namespace Go.Proofs.Ytppckbhbgohbiaa
open Go.RowKit
theorem Lay.Own.pre {α : Type} {E : Lay α} {w : World} {base : Nat} {e : TypeId} {p : Option Addr} {n c : Nat} {l : List α} (h : E.Own w base e (.slice p n c) l) (m : Nat) (hm : m ≤ n) : E.Own w base e (.slice p m c) (l.take m) := by
  obtain ⟨vs, h1, h2⟩ := h
  have hl := h2.all.length
  rcases h1.2 with ⟨hv, h0⟩ | ⟨g, cap, cur, hv, hb, hg, hnc, hcm, hsz, htk⟩
  · simp only [Value.slice.injEq] at hv
    obtain ⟨rfl, rfl, rfl⟩ := hv
    obtain rfl : m = 0 := by omega
    exact Lay.Own.nil E w base e
  · simp only [Value.slice.injEq] at hv
    obtain ⟨rfl, rfl, rfl⟩ := hv
    refine ⟨vs.take (m * E.size), ⟨?_, .inr ⟨g, c, cur, ?_, hb, hg, ?_, hcm, hsz, ?_⟩⟩, fun w' hg' => (h2 w' hg').take m⟩
    · rw [List.length_take, List.length_take, hl, Nat.min_eq_left (Nat.mul_le_mul_right _ hm), Nat.min_eq_left hm]
    · rw [List.length_take, Nat.min_eq_left hm]
    · rw [List.length_take]; omega
    · rw [List.length_take, Nat.min_eq_left hm, ← htk, List.take_take, Nat.min_eq_left (Nat.mul_le_mul_right _ hm)]
theorem Lay.Own.len {α : Type} {E : Lay α} {w : World} {base : Nat} {e : TypeId} {p : Option Addr} {n c : Nat} {l : List α} (h : E.Own w base e (.slice p n c) l) : n = l.length ∧ n ≤ c ∧ c ≤ 9223372036854775807 ∧ Pl p c ∧ E.Row w p n l := by
  obtain ⟨p', n', c', hv, h1, h2, h3, h4⟩ := h.sl
  simp only [Value.slice.injEq] at hv
  obtain ⟨rfl, rfl, rfl⟩ := hv
  exact ⟨h1.1.symm, h2, h3, h4, h1⟩
end Go.Proofs.Ytppckbhbgohbiaa
namespace Go.Proofs.Ytppckbhbgohbiaa.Lg
open Go.RowKit Go.Proofs.Ytppckbhbgohbiaa
set_option linter.unusedVariables false

def RPutR (w : World) (l more : List Ent) (a m : Nat) (i : Value) (wr : World) : Prop :=
  ∃ j : Nat, i = .int .i64 j ∧ j ≤ m ∧ a + j ≤ l.length ∧ Hid (∀ s, s < j → (l.drop a)[s]? = more[s]?) ∧ Ext w wr

set_option maxRecDepth 100000 in
set_option maxHeartbeats 1000000 in
theorem rput_fits (p q : Option Addr) (n c m d : Nat) (l more : List Ent) (w : World) (hl : LEnt.Row w p n l) (hm : LEnt.Row w q m more) (hnc : n ≤ c) (hmd : m ≤ d) (hc : c ≤ 9223372036854775807) (hd : d ≤ 9223372036854775807) (hp : Pl p c) (hq : Pl q d)
    (hn : n ≤ 1000) (hm1 : m ≤ 1000) (a : Nat) (t : Int) (hf : fitsB l a t = true) :
    Calls Try.prog 13 #[.slice p n c, .int .i64 a, .int .i64 t, .slice q m d] w fun e w' => PutP w (putL l a more) e w' := by
  obtain ⟨i0, hi0, hz0, hz1, hz2⟩ := info_parts info_elem
  have hal : a ≤ l.length := by
    unfold fitsB at hf
    have := of_decide_eq_true hf
    omega
  have HF := Lib.hid (rfits_any p n c l w hl a t)
  rw [hf] at HF
  have HL := Lib.hid hl
  have HM := Lib.hid hm
  have HPL := Lib.hid hp
  have HQL := Lib.hid hq
  have hlen := hl.1
  rw [hlen] at hal
  clear hl hm hp hq hlen hf
  have HLN : Hid (l.length = n) := HL.out.1
  go_enter Try.func13, Try.ntmps13
  go_wp2_with fail
  refine HF.out.mono ?_
  rintro e w' ⟨rfl, rfl⟩
  clear HF
  go_wp2
  go_loopw [10] (fun i wr => RPutR w l more a m i wr) (fun i _ => m - (intOf i).toNat)
  case atStart => exact ⟨0, rfl, by omega, by rw [HLN.out]; omega, Lib.hid (by intro j hj; omega), Ext.refl _⟩
  case round =>
    obtain ⟨j, rfl, hj, hjl, HE, hx⟩ := hrel
    rw [HLN.out] at hjl
    have hwr : IntKind.i64.wrap ((a : Int) + (j : Int)) = (a : Int) + (j : Int) := IntWalk.i64_in _ (by omega)
    by_cases hlt : j < m ∧ a + j < n
    · obtain ⟨hlt, hla⟩ := hlt
      have hlt' : (j : Int) < (m : Int) := by omega
      have g1 : decide ((j : Int) < (m : Int)) = true := decide_eq_true (by omega)
      have g1n : decide (j < m) = true := decide_eq_true (by omega)
      have g2 : decide ((a : Int) + (j : Int) < (n : Int)) = true := decide_eq_true (by omega)
      have k0 : (0 : Int) ≤ (j : Int) := by omega
      have k1 : (0 : Int) ≤ (a : Int) + (j : Int) := by omega
      have k2 : (a : Int) + (j : Int) < (n : Int) := by omega
      have k3 : ((a : Int) + (j : Int)).toNat = a + j := by omega
      have gy := ent_get (l := more) (j := j) (by rw [HM.out.1]; exact hlt)
      generalize more.getD j (0, []) = y at gy
      obtain ⟨b2, off2, q1, m1, d1, rfl, y0, y1, _, ry, _⟩ := ent_at (HM.out.ext hx) gy
      have HY := Lib.hid ry
      have GY := Lib.hid gy
      have gx := ent_get (l := l) (j := a + j) (by rw [HLN.out]; omega)
      generalize l.getD (a + j) (0, []) = x at gx
      obtain ⟨b, off, p1, n1, c1, rfl, x0, x1, _, rx, _⟩ := ent_at (HL.out.ext hx) gx
      have HX := Lib.hid rx
      have GX := Lib.hid gx
      clear ry gy rx gx
      obtain ⟨B, hB⟩ : ∃ B, decide (x = y) = B := ⟨_, rfl⟩
      have HB := Lib.hid hB
      have hxx : Ext wr wr.drew := Ext.drew (Ext.refl _)
      have HS : Hid (∀ w', Ext wr w' → w'.cell? ⟨b, off + (a + j) * 2, none⟩ = some (.int .i64 x.1) ∧ w'.cell? ⟨b, off + (a + j) * 2 + 1, none⟩ = some (.slice p1 n1 c1) ∧ w'.cell? ⟨b2, off2 + j * 2, none⟩ = some (.int .i64 y.1) ∧ w'.cell? ⟨b2, off2 + j * 2 + 1, none⟩ = some (.slice q1 m1 d1)) := Lib.hid fun w' h => ⟨h.cell x0, h.cell x1, h.cell y0, h.cell y1⟩
      clear hB
      go_wp2
      go_region_held3 (fun w' => w'.cell? ⟨b, off + (a + j) * 2, none⟩ = some (.int .i64 x.1) ∧ w'.cell? ⟨b, off + (a + j) * 2 + 1, none⟩ = some (.slice p1 n1 c1) ∧ w'.cell? ⟨b2, off2 + j * 2, none⟩ = some (.int .i64 y.1) ∧ w'.cell? ⟨b2, off2 + j * 2 + 1, none⟩ = some (.slice q1 m1 d1)) (exact HS.out _ hxx) ((go_at_call 28; refine (ralike_any x y _ _ _ _ _ _ _ (HX.out.ext hxx) (HY.out.ext hxx)).mono ?_; rintro e w2 ⟨rfl, hx2⟩; rw [HB.out]; replace hxx := Ext.trans hxx hx2; clear hx2))
      replace hx := Ext.trans hx hxx
      clear hxx HS
      cases B
      · have HAG : Hid (agree (l.drop a) more = j) := Lib.hid (agree_at _ _ j (by rw [List.length_drop, HLN.out]; omega) (by rw [HM.out.1]; omega) HE.out (.inr (.inr (by
          rw [List.getElem?_drop, GX.out, GY.out]
          intro e
          exact of_decide_eq_false HB.out (by simpa using e)))))
        clear HX HY GX GY HB HE x0 x1 y0 y1 g1 g1n g2
        have hown0 : LEnt.Own (w2.alloc (.cells #[] 34)) w.heap.size 34 (.slice (some ⟨w2.heap.size, 0, none⟩) 0 0) [] := Lay.Own.made (E := LEnt) _ #[] 0 _ _ hx.size (by decide) rfl
        have HO0 := Lib.hid hown0
        have hx0 : Ext w (w2.alloc (.cells #[] 34)) := Ext.trans hx (Ext.alloc _ _)
        have HL60 : Hid ((([] : List Ent).length + n) ≤ 1000) := Lib.hid (by simp; omega)
        clear hown0
        go_wp2_with (at_builtin; refine Lay.wpList_append (E := LEnt) rfl (.tmp 44) (.tmp 45) 22 rfl w.heap.size 34 i0 (.agg #[.int .i64 0, .slice none 0 0]) 32 Try.underlying22 hi0 hz0 hz1 hz2 rfl _ [] rfl HO0.out _ _ c l rfl HPL.out hnc (HL.out.keep hx0 fun k hk => (HO0.out.lt k hk).1) (by have := HL60.out; unfold maxLen; omega) (by have := HL60.out; omega) hx0.size ?_; intro v1 w1 hown1 hg1; have X1 := HO0.out.below hx0 (Nat.le_refl _) hg1; rw [List.nil_append] at hown1; obtain ⟨r1, n1, s1, rfl, hr1, hns1, hs1, hp1⟩ := hown1.sl; obtain rfl : n1 = n := by rw [← hr1.1, HLN.out])
        have HO1 := Lib.hid hown1
        have HR1 := Lib.hid hr1
        have HP1 := Lib.hid hp1
        clear hown1 hg1 hx0 hr1 hp1 HO0
        have h1' : (j : Int) < (m : Int) := by omega
        have hsj : Hid (a + j ≤ n1) := Lib.hid (by omega)
        have slt : ∀ w, (Instr.slice 22 (.slice r1 n1 s1) none (some (.int .i64 ((a : Int) + (j : Int)))) none).run Try.prog w = .ok (.slice r1 (a + j) s1) w := fun w => run_cut_to Try.underlying22 info_size _ _ _ _ _ (by omega) (by have := hsj.out; omega) HP1.out w
        have slf : ∀ w, (Instr.slice 22 (.slice (some ⟨b2, off2, none⟩) m d) (some (.int .i64 (j : Int))) none none).run Try.prog w = .ok (.slice (cutP (some ⟨b2, off2, none⟩) d j LEnt.size) (m - j) (d - j)) w := fun w => run_cut_from Try.underlying22 info_size _ _ _ _ _ rfl (by omega) hmd w
        have HK : Hid (LEnt.Row w (cutP (some ⟨b2, off2, none⟩) d j LEnt.size) (m - j) (more.drop j) ∧ Pl (cutP (some ⟨b2, off2, none⟩) d j LEnt.size) (d - j)) := Lib.hid ⟨HM.out.cut_from hmd HQL.out j (by omega), Pl.cut HQL.out _ _⟩
        generalize cutP (some ⟨b2, off2, none⟩) d j LEnt.size = Z at slf HK
        have HO2 := Lib.hid (HO1.out.pre (a + j) hsj.out)
        have X1d : Ext w w1.drew := Ext.drew X1
        have HSZ : Hid ((l.take (a + j)).length + (m - j) ≤ 2000) := Lib.hid (by simp [HLN.out]; omega)
        have HMJ : Hid (m - j ≤ d - j) := Lib.hid (by omega)
        have HPUT : Hid (putL l a more = l.take (a + j) ++ more.drop j) := Lib.hid (by unfold putL; rw [HAG.out, if_neg (by rw [HM.out.1]; omega)])
        clear HAG
        go_wp2
        go_region_law (go_loud (refine Lay.step_append0 (E := LEnt) rfl (.tmp 55) (.tmp 58) 22 rfl w.heap.size 34 i0 (.agg #[.int .i64 0, .slice none 0 0]) 32 Try.underlying22 hi0 hz0 hz1 hz2 rfl (.slice r1 (a + j) s1) (l.take (a + j)) (by simp [Act.eval, Act.put]) (w := w1.drew) (HO2.out.ext (Ext.drew (Ext.refl _))) Z (m - j) (d - j) (more.drop j) (by simp [Act.eval, Act.put]) HK.out.2 HMJ.out (HK.out.1.keep X1d fun k hk => (HO2.out.lt k hk).1) (by have := HSZ.out; unfold maxLen; omega) (by have := HSZ.out; omega) X1d.size ?_; intro v2 w2' hown2 hg2))
        have X2 := HO2.out.ext (Ext.drew (Ext.refl _)) |>.below X1d (Nat.le_refl _) hg2
        obtain ⟨r3, n3, s3, rfl, hr3, hns3, hs3, hp3⟩ := hown2.sl
        have HR3 := Lib.hid hr3
        have HP3 := Lib.hid hp3
        have hn3 : n3 ≤ 2000 := by have := hr3.1; have := HSZ.out; simp [HLN.out, HM.out.1] at *; omega
        clear hown2 hg2 hr3 hp3 X1d
        by_cases h5 : n3 ≤ 500
        · have h5' : (n3 : Int) ≤ 500 := by omega
          go_wp2
          go_ret2
          rw [HPUT.out]
          exact PutP.yes HR3.out hns3 hs3 HP3.out X2 h5
        · have h5' : (500 : Int) < (n3 : Int) := by omega
          go_wp2
          go_ret2
          rw [HPUT.out]
          exact PutP.no X2 (by rw [HR3.out.1]; exact h5)
      · go_wp2
        go_roundw
        case rel => exact ⟨j + 1, by go_num, by omega, by have := HLN.out; omega, Lib.hid (fun s hs => by
          by_cases e : s = j
          · subst e; rw [List.getElem?_drop, GX.out, GY.out, of_decide_eq_true HB.out]
          · exact HE.out s (by omega)), hx⟩
        case measure => simp [intOf]; omega
    · by_cases hlt1 : j < m
      · have hla : a + j = n := by omega
        have HAG : Hid (agree (l.drop a) more = j) := Lib.hid (agree_at _ _ j (by rw [List.length_drop, HLN.out]; omega) (by rw [HM.out.1]; omega) HE.out (.inr (.inl (by rw [List.length_drop, HLN.out]; omega))))
        have g1 : decide ((j : Int) < (m : Int)) = true := decide_eq_true (by omega)
        have g1n : decide (j < m) = true := decide_eq_true (by omega)
        have g2 : decide ((a : Int) + (j : Int) < (n : Int)) = false := decide_eq_false (by omega)
        clear hlt HE hla
        go_wp2
        go_quiet (fail)
        replace hx := Ext.drewN hx nq
        have hz : wr.heap.size = (wr.drewN nq).heap.size := rfl
        generalize wr.drewN nq = wx at hx hz ⊢
        have hjm := hlt1
        have hown0 : LEnt.Own (wx.alloc (.cells #[] 34)) w.heap.size 34 (.slice (some ⟨wx.heap.size, 0, none⟩) 0 0) [] := Lay.Own.made (E := LEnt) _ #[] 0 _ _ hx.size (by decide) rfl
        have HO0 := Lib.hid hown0
        have hx0 : Ext w (wx.alloc (.cells #[] 34)) := Ext.trans hx (Ext.alloc _ _)
        have HL60 : Hid ((([] : List Ent).length + n) ≤ 1000) := Lib.hid (by simp; omega)
        clear hown0
        go_wp2_with (at_builtin; refine Lay.wpList_append (E := LEnt) rfl (.tmp 44) (.tmp 45) 22 rfl w.heap.size 34 i0 (.agg #[.int .i64 0, .slice none 0 0]) 32 Try.underlying22 hi0 hz0 hz1 hz2 rfl _ [] rfl HO0.out _ _ c l rfl HPL.out hnc (HL.out.keep hx0 fun k hk => (HO0.out.lt k hk).1) (by have := HL60.out; unfold maxLen; omega) (by have := HL60.out; omega) hx0.size ?_; intro v1 w1 hown1 hg1; have X1 := HO0.out.below hx0 (Nat.le_refl _) hg1; rw [List.nil_append] at hown1; obtain ⟨r1, n1, s1, rfl, hr1, hns1, hs1, hp1⟩ := hown1.sl; obtain rfl : n1 = n := by rw [← hr1.1, HLN.out])
        have HO1 := Lib.hid hown1
        have HR1 := Lib.hid hr1
        have HP1 := Lib.hid hp1
        clear hown1 hg1 hx0 hr1 hp1 HO0
        have h1' : (j : Int) < (m : Int) := by omega
        have hsj : Hid (a + j ≤ n1) := Lib.hid (by omega)
        have slt : ∀ w, (Instr.slice 22 (.slice r1 n1 s1) none (some (.int .i64 ((a : Int) + (j : Int)))) none).run Try.prog w = .ok (.slice r1 (a + j) s1) w := fun w => run_cut_to Try.underlying22 info_size _ _ _ _ _ (by omega) (by have := hsj.out; omega) HP1.out w
        have slf : ∀ w, (Instr.slice 22 (.slice q m d) (some (.int .i64 (j : Int))) none none).run Try.prog w = .ok (.slice (cutP q d j LEnt.size) (m - j) (d - j)) w := fun w => run_cut_from Try.underlying22 info_size _ _ _ _ _ rfl (by omega) hmd w
        have HK : Hid (LEnt.Row w (cutP q d j LEnt.size) (m - j) (more.drop j) ∧ Pl (cutP q d j LEnt.size) (d - j)) := Lib.hid ⟨HM.out.cut_from hmd HQL.out j (by omega), Pl.cut HQL.out _ _⟩
        generalize cutP q d j LEnt.size = Z at slf HK
        have HO2 := Lib.hid (HO1.out.pre (a + j) hsj.out)
        have X1d : Ext w w1.drew := Ext.drew X1
        have HSZ : Hid ((l.take (a + j)).length + (m - j) ≤ 2000) := Lib.hid (by simp [HLN.out]; omega)
        have HMJ : Hid (m - j ≤ d - j) := Lib.hid (by omega)
        have HPUT : Hid (putL l a more = l.take (a + j) ++ more.drop j) := Lib.hid (by unfold putL; rw [HAG.out, if_neg (by rw [HM.out.1]; omega)])
        clear HAG
        go_wp2
        go_region_law (go_loud (refine Lay.step_append0 (E := LEnt) rfl (.tmp 55) (.tmp 58) 22 rfl w.heap.size 34 i0 (.agg #[.int .i64 0, .slice none 0 0]) 32 Try.underlying22 hi0 hz0 hz1 hz2 rfl (.slice r1 (a + j) s1) (l.take (a + j)) (by simp [Act.eval, Act.put]) (w := w1.drew) (HO2.out.ext (Ext.drew (Ext.refl _))) Z (m - j) (d - j) (more.drop j) (by simp [Act.eval, Act.put]) HK.out.2 HMJ.out (HK.out.1.keep X1d fun k hk => (HO2.out.lt k hk).1) (by have := HSZ.out; unfold maxLen; omega) (by have := HSZ.out; omega) X1d.size ?_; intro v2 w2' hown2 hg2))
        have X2 := HO2.out.ext (Ext.drew (Ext.refl _)) |>.below X1d (Nat.le_refl _) hg2
        obtain ⟨r3, n3, s3, rfl, hr3, hns3, hs3, hp3⟩ := hown2.sl
        have HR3 := Lib.hid hr3
        have HP3 := Lib.hid hp3
        have hn3 : n3 ≤ 2000 := by have := hr3.1; have := HSZ.out; simp [HLN.out, HM.out.1] at *; omega
        clear hown2 hg2 hr3 hp3 X1d
        by_cases h5 : n3 ≤ 500
        · have h5' : (n3 : Int) ≤ 500 := by omega
          go_wp2
          go_ret2
          rw [HPUT.out]
          exact PutP.yes HR3.out hns3 hs3 HP3.out X2 h5
        · have h5' : (500 : Int) < (n3 : Int) := by omega
          go_wp2
          go_ret2
          rw [HPUT.out]
          exact PutP.no X2 (by rw [HR3.out.1]; exact h5)
      · have hjm : j = m := by omega
        have HJM := Lib.hid hjm
        have HAG : Hid (agree (l.drop a) more = j) := Lib.hid (agree_at _ _ j (by rw [List.length_drop, HLN.out]; omega) (by rw [HM.out.1]; omega) HE.out (.inl (by rw [HM.out.1]; exact hjm)))
        have g1 : decide ((j : Int) < (m : Int)) = false := decide_eq_false (by omega)
        have g1n : decide (j < m) = false := decide_eq_false (by omega)
        have g3 : ¬ ((j : Int) < (m : Int)) := by omega
        clear hlt HE hlt1 hjm
        go_wp2
        go_quiet (fail)
        replace hx := Ext.drewN hx nq
        have hz : wr.heap.size = (wr.drewN nq).heap.size := rfl
        generalize wr.drewN nq = wx at hx hz ⊢
        by_cases h5 : n ≤ 500
        · have h5' : (n : Int) ≤ 500 := by omega
          have hown0 : LEnt.Own (wx.alloc (.cells #[] 34)) w.heap.size 34 (.slice (some ⟨wx.heap.size, 0, none⟩) 0 0) [] := Lay.Own.made (E := LEnt) _ #[] 0 _ _ hx.size (by decide) rfl
          have HO0 := Lib.hid hown0
          have hx0 : Ext w (wx.alloc (.cells #[] 34)) := Ext.trans hx (Ext.alloc _ _)
          have HL60 : Hid ((([] : List Ent).length + n) ≤ 1000) := Lib.hid (by simp; omega)
          clear hown0
          go_wp2_with (at_builtin; refine Lay.wpList_append (E := LEnt) rfl (.tmp 44) (.tmp 45) 22 rfl w.heap.size 34 i0 (.agg #[.int .i64 0, .slice none 0 0]) 32 Try.underlying22 hi0 hz0 hz1 hz2 rfl _ [] rfl HO0.out _ _ c l rfl HPL.out hnc (HL.out.keep hx0 fun k hk => (HO0.out.lt k hk).1) (by have := HL60.out; unfold maxLen; omega) (by have := HL60.out; omega) hx0.size ?_; intro v1 w1 hown1 hg1; have X1 := HO0.out.below hx0 (Nat.le_refl _) hg1; rw [List.nil_append] at hown1; obtain ⟨r1, n1, s1, rfl, hr1, hns1, hs1, hp1⟩ := hown1.sl; obtain rfl : n1 = n := by rw [← hr1.1, HLN.out])
          clear hown1 hg1 hx0 HO0
          have HPUT : Hid (putL l a more = l) := Lib.hid (by unfold putL; rw [HAG.out, if_pos (by rw [HM.out.1]; exact HJM.out)])
          go_ret2
          rw [HPUT.out]
          exact PutP.yes hr1 hns1 hs1 hp1 X1 h5
        · have h5' : (500 : Int) < (n : Int) := by omega
          have hown0 : LEnt.Own (wx.alloc (.cells #[] 34)) w.heap.size 34 (.slice (some ⟨wx.heap.size, 0, none⟩) 0 0) [] := Lay.Own.made (E := LEnt) _ #[] 0 _ _ hx.size (by decide) rfl
          have HO0 := Lib.hid hown0
          have hx0 : Ext w (wx.alloc (.cells #[] 34)) := Ext.trans hx (Ext.alloc _ _)
          have HL60 : Hid ((([] : List Ent).length + n) ≤ 1000) := Lib.hid (by simp; omega)
          clear hown0
          go_wp2_with (at_builtin; refine Lay.wpList_append (E := LEnt) rfl (.tmp 44) (.tmp 45) 22 rfl w.heap.size 34 i0 (.agg #[.int .i64 0, .slice none 0 0]) 32 Try.underlying22 hi0 hz0 hz1 hz2 rfl _ [] rfl HO0.out _ _ c l rfl HPL.out hnc (HL.out.keep hx0 fun k hk => (HO0.out.lt k hk).1) (by have := HL60.out; unfold maxLen; omega) (by have := HL60.out; omega) hx0.size ?_; intro v1 w1 hown1 hg1; have X1 := HO0.out.below hx0 (Nat.le_refl _) hg1; rw [List.nil_append] at hown1; obtain ⟨r1, n1, s1, rfl, hr1, hns1, hs1, hp1⟩ := hown1.sl; obtain rfl : n1 = n := by rw [← hr1.1, HLN.out])
          clear hown1 hg1 hx0 HO0
          have HPUT : Hid (putL l a more = l) := Lib.hid (by unfold putL; rw [HAG.out, if_pos (by rw [HM.out.1]; exact HJM.out)])
          go_ret2
          rw [HPUT.out]
          exact PutP.no X1 (by rw [HLN.out]; exact h5)

set_option maxHeartbeats 1000000 in
theorem rput_not (p : Option Addr) (n c : Nat) (v : Value) (l : List Ent) (w : World) (hl : LEnt.Row w p n l) (a : Int) (t : Int) (hf : fitsB l a t = false) :
    Calls Try.prog 13 #[.slice p n c, .int .i64 a, .int .i64 t, v] w fun e w' => e = .returned (.tuple #[.slice none 0 0, .bool false]) ∧ w = w' := by
  have HF := Lib.hid (rfits_any p n c l w hl a t)
  rw [hf] at HF
  clear hl hf
  go_enter Try.func13, Try.ntmps13
  go_wp2_with fail
  refine HF.out.mono ?_
  rintro e w' ⟨rfl, rfl⟩
  clear HF
  go_wp2
  go_ret2
  exact ⟨rfl, rfl⟩
end Go.Proofs.Ytppckbhbgohbiaa.Lg
