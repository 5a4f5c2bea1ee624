/- Votes: the walk of VoteMeets. -/
import Derived.Test.YtmcenioblbcehaaVoteN
import Derived.Test.YtmcenioblbcehaaOwn2
namespace Go.Proofs.Ytmcenioblbcehaa.Lg
open Go.RowKit Go.Proofs.Ytmcenioblbcehaa
set_option linter.unusedVariables false
theorem info_int64 : (Try.prog.info? 3).map (fun i => (i.zero, i.size, i.bytes)) = some (some (.int .i64 0), 1, 8) := by kernel_rfl
def meet (a b l : List Int) : Bool := l.any fun p => decide (p ∈ a) && decide (p ∈ b)
def rest (a l : List Int) : List Int := l.filter fun p => !decide (p ∈ a)
theorem filt_mono (f g : Int → Bool) : ∀ l : List Int, (∀ p ∈ l, f p = true → g p = true) → (l.filter f).length ≤ (l.filter g).length
  | [], _ => by simp
  | p :: l, h => by
    have ih := filt_mono f g l fun q hq => h q (by simp [hq])
    have hp := h p (by simp)
    by_cases e : f p = true
    · simp [e, hp e]; exact ih
    · by_cases e2 : g p = true
      · simp [e, e2]; omega
      · simp [e, e2]; exact ih
theorem meet_no (a b : List Int) : ∀ l : List Int, meet a b l = false → hits a l + hits b l ≤ l.length
  | [], _ => by simp [hits]
  | p :: l, h => by
    unfold meet at h
    rw [List.any_cons, Bool.or_eq_false_iff] at h
    have ih := meet_no a b l h.2
    have hp := h.1
    unfold hits at ih ⊢
    by_cases e : p ∈ a
    · have e2 : ¬ p ∈ b := fun e2 => by simp [e, e2] at hp
      simp [e, e2]; omega
    · by_cases e2 : p ∈ b
      · simp [e, e2]; omega
      · simp [e, e2]; omega
theorem rest_hits (a l : List Int) : hits (rest a l) l + hits a l ≤ l.length := by
  have h1 : hits (rest a l) l ≤ (l.filter fun p => !decide (p ∈ a)).length := by
    unfold hits
    refine filt_mono _ _ l fun p hp h => ?_
    have := of_decide_eq_true h
    unfold rest at this
    exact (List.mem_filter.1 this).2
  have h2 : ∀ l : List Int, (l.filter fun p => !decide (p ∈ a)).length + (l.filter fun p => decide (p ∈ a)).length = l.length := by
    intro l
    induction l with
    | nil => simp
    | cons p l ih =>
      by_cases e : p ∈ a
      · simp [e] at ih ⊢; omega
      · simp [e] at ih ⊢; omega
  have := h2 l
  unfold hits at h1 ⊢
  omega
theorem meets1 {a b l : List Int} (ha : wonB a l = true) (hb : wonB b l = true) : meet a b l = true := by
  cases h : meet a b l
  · have := meet_no a b l h
    have h1 := of_decide_eq_true ha
    have h2 := of_decide_eq_true hb
    omega
  · rfl
theorem meets2 {a l : List Int} (ha : wonB a l = true) : wonB (rest a l) l = false := by
  have h1 := of_decide_eq_true ha
  have := rest_hits a l
  exact decide_eq_false (by omega)
theorem meets3 {a b l : List Int} (h : wonB a l = true ∨ wonB b l = true) : wonB (a ++ b) l = true := by
  have h1 : hits a l ≤ hits (a ++ b) l := filt_mono _ _ l fun p _ hp => decide_eq_true (List.mem_append.2 (.inl (of_decide_eq_true hp)))
  have h2 : hits b l ≤ hits (a ++ b) l := filt_mono _ _ l fun p _ hp => decide_eq_true (List.mem_append.2 (.inr (of_decide_eq_true hp)))
  refine decide_eq_true ?_
  rcases h with h | h <;> have := of_decide_eq_true h <;> omega
theorem meets4 (l : List Int) : wonB l l = decide (0 < l.length) := by
  have : hits l l = l.length := by
    unfold hits
    rw [List.filter_eq_self.2 (fun p hp => decide_eq_true hp)]
  unfold wonB
  rw [this]
  by_cases e : 0 < l.length
  · rw [decide_eq_true e, decide_eq_true (by omega)]
  · rw [decide_eq_false e, decide_eq_false (by omega)]
theorem take_at (l : List Int) {k : Nat} (h : k < l.length) : l.take (k + 1) = l.take k ++ [at0 l k] := by
  rw [List.take_add_one, at0, List.getElem?_eq_getElem h, List.getD_eq_getElem?_getD, List.getElem?_eq_getElem h]; rfl
def GroupR (w1 : World) (g i : Value) (wr : World) : Prop := ∃ (k : Nat) (l : List Int), i = .int .i64 k ∧ k ≤ 16 ∧ Hid (LI.Own wr w1.heap.size 3 g l ∧ l.length ≤ 30 * k) ∧ Ext w1 wr
def GroupR2 (w1 : World) (k n : Nat) (g j : Value) (wr : World) : Prop := ∃ (i : Nat) (l : List Int), j = .int .i64 i ∧ i ≤ n ∧ Hid (LI.Own wr w1.heap.size 3 g l ∧ l.length ≤ 30 * k + i) ∧ Ext w1 wr
def RestR (w1 : World) (a b l : List Int) (n : Nat) (m r i : Value) (wr : World) : Prop := ∃ k : Nat, i = .int .i64 k ∧ k ≤ n ∧ m = .bool (meet a b (l.take k)) ∧ Hid (LI.Own wr w1.heap.size 3 r (rest a (l.take k))) ∧ Ext w1 wr

set_option maxRecDepth 100000 in
set_option maxHeartbeats 16000000 in
theorem meets_walk {p1 p2 p3 : Option Addr} {n1 n2 n3 c1 c2 c3 : Nat} {v0 v1 bs : List Int} {w : World} (h1 : LI.Row w p1 n1 v0) (k1 : n1 ≤ c1) (m1 : c1 ≤ 9223372036854775807) (g1 : Pl p1 c1) (h2 : LI.Row w p2 n2 v1) (k2 : n2 ≤ c2) (m2 : c2 ≤ 9223372036854775807) (g2 : Pl p2 c2) (h3 : (Lay.int .u8).Row w p3 n3 bs) :
    Calls Try.prog 5 #[.slice p1 n1 c1, .slice p2 n2 c2, .slice p3 n3 c3] w fun e w' => e = .returned (.bool true) ∧ Ext w w' := by
  obtain ⟨j0, hj0, hy0, hy1, hy2⟩ := info_parts info_int64
  have H1 := Lib.hid h1
  have H2 := Lib.hid h2
  have H3 := Lib.hid h3.ints
  have G1 := Lib.hid g1
  have G2 := Lib.hid g2
  have hn1 := h1.2.1
  have hn2 := h2.2.1
  have hn3 := h3.2.1
  clear h1 h2 h3 g1 g2
  go_enter Try.func5, Try.ntmps5
  go_wp2_with fail
  refine (head_any _).mono ?_
  rintro e w1 ⟨rfl, hw1⟩
  by_cases q1 : (30 : Int) < (n1 : Int)
  · go_wp2
    go_ret
    exact ⟨rfl, hw1⟩
  by_cases q2 : (30 : Int) < (n2 : Int)
  · go_wp2
    go_ret
    exact ⟨rfl, hw1⟩
  by_cases q3 : (30 : Int) < (n3 : Int)
  · go_wp2
    go_ret
    exact ⟨rfl, hw1⟩
  have Q1 := Lib.hid q1
  have Q2 := Lib.hid q2
  have Q3 := Lib.hid q3
  go_wp2
  clear q1 q2 q3
  have q3' : n3 ≤ 30 := by have := Q3.out; omega
  go_loopw [8, 9] (fun g i wr => GroupR w1 g i wr) (fun _ i _ => 16 - (intOf i).toNat)
  case atStart => exact ⟨0, [], rfl, by omega, Lib.hid ⟨Lay.Own.nil _ _ _ _, by simp⟩, Ext.refl _⟩
  case round =>
    obtain ⟨k, l, rfl, hk, HO, hx⟩ := hrel
    by_cases hk16 : k < 16
    · have hk16' : (k : Int) < 16 := by omega
      go_wp2
      go_loopw [8, 10] (fun g j wr => GroupR2 w1 k n3 g j wr) (fun _ j _ => n3 - (intOf j).toNat)
      case atStart => exact ⟨0, l, rfl, by omega, Lib.hid ⟨HO.out.1, by have := HO.out.2; omega⟩, hx⟩
      case round =>
        clear HO hx l
        obtain ⟨j, l, rfl, hj, HO, hx⟩ := hrel
        have hsl := HO.out.1.sl
        obtain ⟨gp, gn, gc, rfl, hr, hnc, hc9, hpl⟩ := hsl
        have HR := Lib.hid hr.ints.1
        clear hr hpl
        by_cases hlt : j < n3
        · have hlt' : (j : Int) < (n3 : Int) := by omega
          have hlt0 : (0 : Int) ≤ (j : Int) := by omega
          obtain ⟨b, off, rfl, hcx⟩ := H3.out.1.2.2 (by omega)
          have cx := (Ext.trans hw1 hx).cell (hcx j hlt)
          have hbd := bd8 (H3.out.2 (at0 bs j) (by rw [at0, List.getD_eq_getElem?_getD, List.getElem?_eq_getElem (by rw [H3.out.1.1]; exact hlt)]; exact List.getElem_mem _))
          obtain ⟨hb0, hb1⟩ := hbd
          clear hcx
          generalize at0 bs j = x at cx hb0 hb1
          have hlen : Hid (l.length ≤ 510) := Lib.hid (by have := HO.out.2; omega)
          go_wp2_with fail
          refine (has_any gp gn gc l (k : Int) wr HR.out).mono ?_
          rintro e w' ⟨rfl, rfl⟩
          obtain ⟨B, hB⟩ : ∃ B, decide ((k : Int) ∈ l) = B := ⟨_, rfl⟩
          rw [hB]
          clear hB
          by_cases hx16 : x % 16 = (k : Int)
          · cases B
            · have HOA : Hid (LI.Own (wr.alloc (.cells #[.int .i64 (k : Int)] 3)) w1.heap.size 3 (.slice gp gn gc) l) := Lib.hid (HO.out.1.ext (Ext.alloc _ _))
              have HWK : Hid ((Lit.int .i64 (k : Int)).wf = true) := Lib.hid (by simp [Lit.wf, IntKind.min, IntKind.max, IntKind.signed, IntKind.bits]; omega)
              have hxa : Ext w1 (wr.alloc (.cells #[.int .i64 (k : Int)] 3)) := Ext.trans hx (Ext.alloc _ _)
              go_wp2_with (at_builtin; refine Lay.wpList_append (E := Lay.int .i64) rfl (.tmp 60) (.tmp 62) 22 rfl w1.heap.size 3 j0 (.int .i64 0) 8 Try.underlying22 hj0 hy0 hy1 hy2 rfl _ (l) rfl (HOA.out) (some ⟨wr.heap.size, 0, none⟩) 1 1 ([(k : Int)]) rfl (fun _ => ⟨_, _, rfl⟩) (by omega) (Lay.RowK.lit (Ext.refl _) (Lay.single_int HWK.out) rfl rfl (by omega)) (by have := hlen.out; unfold maxLen; omega) (by have := hlen.out; omega) hxa.size ?_; intro v2 w2 hown2 hg2)
              have X2 := HOA.out.below hxa (Nat.le_refl _) hg2
              have HO2 := Lib.hid hown2
              clear hown2 hg2
              go_roundw
              case rel => exact ⟨j + 1, l ++ [(k : Int)], by go_num, by omega, Lib.hid ⟨HO2.out, by have := HO.out.2; simp; omega⟩, X2⟩
              case measure => simp [intOf]; omega
            · go_wp2
              go_roundw
              case rel => exact ⟨j + 1, l, by go_num, by omega, Lib.hid ⟨HO.out.1, by have := HO.out.2; omega⟩, hx⟩
              case measure => simp [intOf]; omega
          · have e1 : (x % 16 == (k : Int)) = false := by simp [hx16]
            go_wp2
            go_roundw
            case rel => exact ⟨j + 1, l, by go_num, by omega, Lib.hid ⟨HO.out.1, by have := HO.out.2; omega⟩, hx⟩
            case measure => simp [intOf]; omega
        · obtain rfl : j = n3 := by omega
          go_wp2
          go_roundw
          case rel => exact ⟨k + 1, l, by go_num, by omega, Lib.hid ⟨HO.out.1, by have := HO.out.2; omega⟩, hx⟩
          case measure => simp [intOf]; omega
    · obtain rfl : k = 16 := by omega
      have hsl := HO.out.1.sl
      obtain ⟨gp, gn, gc, rfl, hr, hnc, hc9, hpl⟩ := hsl
      have HG := Lib.hid hr.ints
      have hg480 : gn ≤ 480 := by have := HO.out.2; have h := hr.1; omega
      clear hr hpl HO hk hk16
      have hx0 : Ext w wr := Ext.trans hw1 hx
      clear hx hw1
      go_wp2_with fail
      refine (won_any p1 gp n1 c1 gn gc v0 l _ (H1.out.ints.1.ext hx0) HG.out.1 (by omega)).mono ?_
      rintro e w3 ⟨rfl, hx3⟩
      replace HG := Lib.hid (And.intro (HG.out.1.ext hx3) HG.out.2)
      replace hx0 := Ext.trans hx0 hx3
      clear hx3
      go_wp2_with fail
      refine (won_any p2 gp n2 c2 gn gc v1 l _ (H2.out.ints.1.ext hx0) HG.out.1 (by omega)).mono ?_
      rintro e w5 ⟨rfl, hx3⟩
      replace HG := Lib.hid (And.intro (HG.out.1.ext hx3) HG.out.2)
      replace hx0 := Ext.trans hx0 hx3
      clear hx3
      obtain ⟨A0, hA0⟩ : ∃ b, wonB v0 l = b := ⟨_, rfl⟩
      obtain ⟨A1, hA1⟩ : ∃ b, wonB v1 l = b := ⟨_, rfl⟩
      rw [hA0, hA1]
      have HA0 := Lib.hid hA0
      have HA1 := Lib.hid hA1
      clear hA0 hA1
      go_wp2
      go_loopw [14, 15, 16] (fun m r i wr => RestR w5 v0 v1 l gn m r i wr) (fun _ _ i _ => gn - (intOf i).toNat)
      case atStart => exact ⟨0, rfl, by omega, by simp [meet], Lib.hid (by simp only [List.take_zero]; exact Lay.Own.nil _ _ _ _), Ext.refl _⟩
      case round =>
        obtain ⟨k, rfl, hk, rfl, HO, hx⟩ := hrel
        have hsl := HO.out.sl
        obtain ⟨rp, rn, rc, rfl, hr, hrc, hc8, hpl⟩ := hsl
        have HRR := Lib.hid hr
        clear hr hpl
        by_cases hlt : k < gn
        · have hlt' : (k : Int) < (gn : Int) := by omega
          have hlt0 : (0 : Int) ≤ (k : Int) := by omega
          have hll : k < l.length := by rw [HG.out.1.1]; exact hlt
          obtain ⟨b, off, rfl, hcx⟩ := HG.out.1.2.2 (by omega)
          have cx := hx.cell (hcx k hlt)
          have HCX := Lib.hid cx
          clear hcx
          have HT := Lib.hid (take_at l hll)
          have HWX : Hid ((Lit.int .i64 (at0 l k)).wf = true) := Lib.hid (HG.out.2 _ (by rw [at0, List.getD_eq_getElem?_getD, List.getElem?_eq_getElem hll]; exact List.getElem_mem _))
          have hlen : Hid ((rest v0 (l.take k)).length ≤ 510) := Lib.hid (by
            have h1 : (rest v0 (l.take k)).length ≤ (l.take k).length := List.length_filter_le _ _
            have h2 : (l.take k).length ≤ l.length := by simp; omega
            have h3 := HG.out.1.1
            omega)
          clear hll
          go_wp2_with fail
          refine (has_any p1 n1 c1 v0 (at0 l k) _ (H1.out.ints.1.ext (Ext.trans hx0 hx))).mono ?_
          rintro e w' ⟨rfl, rfl⟩
          go_wp2_with fail
          refine (has_any p2 n2 c2 v1 (at0 l k) _ (H2.out.ints.1.ext (Ext.trans hx0 hx))).mono ?_
          rintro e w' ⟨rfl, rfl⟩
          have HMS : Hid (meet v0 v1 (l.take (k + 1)) = (meet v0 v1 (l.take k) || (decide (at0 l k ∈ v0) && decide (at0 l k ∈ v1)))) := Lib.hid (by rw [HT.out]; unfold meet; simp)
          have HRS : Hid (rest v0 (l.take (k + 1)) = rest v0 (l.take k) ++ if at0 l k ∈ v0 then [] else [at0 l k]) := Lib.hid (by
            rw [HT.out]; unfold rest
            rw [List.filter_append]
            by_cases e : at0 l k ∈ v0 <;> simp [e])
          have HOA : Hid (LI.Own (wr.alloc (.cells #[.int .i64 (at0 l k)] 3)) w5.heap.size 3 (.slice rp rn rc) (rest v0 (l.take k))) := Lib.hid (HO.out.ext (Ext.alloc _ _))
          have hxa : Ext w5 (wr.alloc (.cells #[.int .i64 (at0 l k)] 3)) := Ext.trans hx (Ext.alloc _ _)
          generalize at0 l k = x at cx HCX HWX HMS HRS HOA hxa ⊢
          obtain ⟨M, hM⟩ : ∃ M, meet v0 v1 (l.take k) = M := ⟨_, rfl⟩
          rw [hM] at HMS
          rw [hM]
          clear hM
          by_cases e0 : x ∈ v0
          · rw [decide_eq_true e0]
            rw [decide_eq_true e0] at HMS
            rw [if_pos e0, List.append_nil] at HRS
            clear e0 HOA hxa
            obtain ⟨B1, hB1⟩ : ∃ B, decide (x ∈ v1) = B := ⟨_, rfl⟩
            rw [hB1] at HMS
            rw [hB1]
            clear hB1
            cases M <;> cases B1
            all_goals
              go_wp2
              go_roundw
              case rel => exact ⟨k + 1, by go_num, by omega, by rw [HMS.out]; rfl, Lib.hid (by rw [HRS.out]; exact HO.out), hx⟩
              case measure => simp [intOf]; omega
          · rw [decide_eq_false e0]
            rw [decide_eq_false e0] at HMS
            rw [if_neg e0] at HRS
            clear e0
            cases M
            all_goals
              go_wp2_with (at_builtin; refine Lay.wpList_append (E := Lay.int .i64) rfl (.tmp 97) (.tmp 102) 22 rfl w5.heap.size 3 j0 (.int .i64 0) 8 Try.underlying22 hj0 hy0 hy1 hy2 rfl _ (rest v0 (l.take k)) rfl (HOA.out) (some ⟨wr.heap.size, 0, none⟩) 1 1 ([x]) rfl (fun _ => ⟨_, _, rfl⟩) (by omega) (Lay.RowK.lit (Ext.refl _) (Lay.single_int HWX.out) rfl rfl (by omega)) (by have := hlen.out; unfold maxLen; omega) (by have := hlen.out; omega) hxa.size ?_; intro v2 w2 hown2 hg2)
              have X2 := HOA.out.below hxa (Nat.le_refl _) hg2
              have HO2 := Lib.hid hown2
              clear hown2 hg2
              go_roundw
              case rel => exact ⟨k + 1, by go_num, by omega, by rw [HMS.out]; rfl, Lib.hid (by rw [HRS.out]; exact HO2.out), X2⟩
              case measure => simp [intOf]; omega
        · obtain rfl : gn = k := by omega
          have hlk : l.take gn = l := List.take_of_length_le (by rw [HG.out.1.1]; exact Nat.le_refl _)
          rw [hlk] at HRR HO
          rw [hlk]
          clear hlk HO
          have HRI := Lib.hid HRR.out.ints.1
          replace HG := Lib.hid (HG.out.1.ext hx)
          replace hx0 := Ext.trans hx0 hx
          clear hx HRR hk hlt
          have hown0 : LI.Own (wr.alloc (.cells #[] 3)) wr.heap.size 3 (.slice (some ⟨wr.heap.size, 0, none⟩) 0 0) [] := Lay.Own.made (E := LI) _ #[] 0 _ _ (Nat.le_refl _) (by decide) rfl
          have HO0 := Lib.hid hown0
          have hxa : Ext wr (wr.alloc (.cells #[] 3)) := Ext.alloc _ _
          have HL1 : Hid (([] : List Int).length + n1 ≤ 60) := Lib.hid (by have := Q1.out; simp; omega)
          clear hown0
          obtain ⟨M, hM⟩ : ∃ M, meet v0 v1 l = M := ⟨_, rfl⟩
          have HM := Lib.hid hM
          rw [hM]
          clear hM
          cases A0 <;> cases A1
          · go_wp2_with (first | (at_builtin; refine Lay.wpList_append (E := Lay.int .i64) rfl (.tmp 104) (.tmp 105) 22 rfl wr.heap.size 3 j0 (.int .i64 0) 8 Try.underlying22 hj0 hy0 hy1 hy2 rfl _ ([]) rfl (HO0.out) (p1) n1 c1 (v0) rfl G1.out k1 (H1.out.keep (Ext.trans hx0 hxa) fun k hk => Nat.le_trans hx0.size (HO0.out.lt k hk).1) (by have := HL1.out; unfold maxLen; omega) (by have := HL1.out; omega) hxa.size ?_; intro v2 w2 hown2 hg2; have X2 := HO0.out.below hxa (Nat.le_refl _) hg2; rw [List.nil_append] at hown2; have HO2 := Lib.hid hown2; have HL2 : Hid (v0.length + n2 ≤ 60) := Lib.hid (by have := Q1.out; have := Q2.out; have := H1.out.1; omega); clear hown2 hg2) | (at_builtin; refine Lay.wpList_append (E := Lay.int .i64) rfl (.tmp 106) (.tmp 107) 22 rfl wr.heap.size 3 j0 (.int .i64 0) 8 Try.underlying22 hj0 hy0 hy1 hy2 rfl _ (v0) rfl (HO2.out) (p2) n2 c2 (v1) rfl G2.out k2 (H2.out.keep (Ext.trans hx0 X2) fun k hk => Nat.le_trans hx0.size (HO2.out.lt k hk).1) (by have := HL2.out; unfold maxLen; omega) (by have := HL2.out; omega) X2.size ?_; intro v4 w4 hown4 hg4; have X4 := HO2.out.below X2 (Nat.le_refl _) hg4; obtain ⟨qp, qn, qc, rfl, hq, hq2, hq3, hq4⟩ := hown4.sl; have HQ := Lib.hid hq.ints.1; clear hq hq4 hown4 hg4))
            refine (won_any gp gp gn gc gn gc l l _ (HG.out.ext X4) (HG.out.ext X4) (by omega)).mono ?_
            rintro e wz ⟨rfl, hx9⟩
            rw [meets4, HG.out.1]
            have hfin := Ext.trans hx0 (Ext.trans X4 hx9)
            by_cases hg0 : 0 < gn
            · rw [decide_eq_true hg0]
              have hg1 : (0 : Int) < (gn : Int) := by omega
              go_wp2
              go_ret
              exact ⟨rfl, hfin⟩
            · rw [decide_eq_false hg0]
              have hg1 : ¬ (0 : Int) < (gn : Int) := by omega
              go_wp2
              go_ret
              exact ⟨rfl, hfin⟩
          · go_wp2_with (first | (at_builtin; refine Lay.wpList_append (E := Lay.int .i64) rfl (.tmp 104) (.tmp 105) 22 rfl wr.heap.size 3 j0 (.int .i64 0) 8 Try.underlying22 hj0 hy0 hy1 hy2 rfl _ ([]) rfl (HO0.out) (p1) n1 c1 (v0) rfl G1.out k1 (H1.out.keep (Ext.trans hx0 hxa) fun k hk => Nat.le_trans hx0.size (HO0.out.lt k hk).1) (by have := HL1.out; unfold maxLen; omega) (by have := HL1.out; omega) hxa.size ?_; intro v2 w2 hown2 hg2; have X2 := HO0.out.below hxa (Nat.le_refl _) hg2; rw [List.nil_append] at hown2; have HO2 := Lib.hid hown2; have HL2 : Hid (v0.length + n2 ≤ 60) := Lib.hid (by have := Q1.out; have := Q2.out; have := H1.out.1; omega); clear hown2 hg2) | (at_builtin; refine Lay.wpList_append (E := Lay.int .i64) rfl (.tmp 106) (.tmp 107) 22 rfl wr.heap.size 3 j0 (.int .i64 0) 8 Try.underlying22 hj0 hy0 hy1 hy2 rfl _ (v0) rfl (HO2.out) (p2) n2 c2 (v1) rfl G2.out k2 (H2.out.keep (Ext.trans hx0 X2) fun k hk => Nat.le_trans hx0.size (HO2.out.lt k hk).1) (by have := HL2.out; unfold maxLen; omega) (by have := HL2.out; omega) X2.size ?_; intro v4 w4 hown4 hg4; have X4 := HO2.out.below X2 (Nat.le_refl _) hg4; obtain ⟨qp, qn, qc, rfl, hq, hq2, hq3, hq4⟩ := hown4.sl; have HQ := Lib.hid hq.ints.1; clear hq hq4 hown4 hg4))
            refine (won_any qp gp qn qc gn gc (v0 ++ v1) l _ (HQ.out.ext (Ext.refl _)) (HG.out.ext X4) (by omega)).mono ?_
            rintro e w9 ⟨rfl, hx9⟩
            rw [meets3 (.inr HA1.out)]
            have w9x := Ext.trans X4 hx9
            clear hx9
            go_wp2_with fail
            refine (won_any gp gp gn gc gn gc l l _ (HG.out.ext w9x) (HG.out.ext w9x) (by omega)).mono ?_
            rintro e wz ⟨rfl, hx9⟩
            rw [meets4, HG.out.1]
            have hfin := Ext.trans hx0 (Ext.trans w9x hx9)
            by_cases hg0 : 0 < gn
            · rw [decide_eq_true hg0]
              have hg1 : (0 : Int) < (gn : Int) := by omega
              go_wp2
              go_ret
              exact ⟨rfl, hfin⟩
            · rw [decide_eq_false hg0]
              have hg1 : ¬ (0 : Int) < (gn : Int) := by omega
              go_wp2
              go_ret
              exact ⟨rfl, hfin⟩
          · go_wp2_with (first | (at_builtin; refine Lay.wpList_append (E := Lay.int .i64) rfl (.tmp 104) (.tmp 105) 22 rfl wr.heap.size 3 j0 (.int .i64 0) 8 Try.underlying22 hj0 hy0 hy1 hy2 rfl _ ([]) rfl (HO0.out) (p1) n1 c1 (v0) rfl G1.out k1 (H1.out.keep (Ext.trans hx0 hxa) fun k hk => Nat.le_trans hx0.size (HO0.out.lt k hk).1) (by have := HL1.out; unfold maxLen; omega) (by have := HL1.out; omega) hxa.size ?_; intro v2 w2 hown2 hg2; have X2 := HO0.out.below hxa (Nat.le_refl _) hg2; rw [List.nil_append] at hown2; have HO2 := Lib.hid hown2; have HL2 : Hid (v0.length + n2 ≤ 60) := Lib.hid (by have := Q1.out; have := Q2.out; have := H1.out.1; omega); clear hown2 hg2) | (at_builtin; refine Lay.wpList_append (E := Lay.int .i64) rfl (.tmp 106) (.tmp 107) 22 rfl wr.heap.size 3 j0 (.int .i64 0) 8 Try.underlying22 hj0 hy0 hy1 hy2 rfl _ (v0) rfl (HO2.out) (p2) n2 c2 (v1) rfl G2.out k2 (H2.out.keep (Ext.trans hx0 X2) fun k hk => Nat.le_trans hx0.size (HO2.out.lt k hk).1) (by have := HL2.out; unfold maxLen; omega) (by have := HL2.out; omega) X2.size ?_; intro v4 w4 hown4 hg4; have X4 := HO2.out.below X2 (Nat.le_refl _) hg4; obtain ⟨qp, qn, qc, rfl, hq, hq2, hq3, hq4⟩ := hown4.sl; have HQ := Lib.hid hq.ints.1; clear hq hq4 hown4 hg4))
            refine (won_any rp gp rn rc gn gc (rest v0 l) l _ (HRI.out.ext X4) (HG.out.ext X4) (by omega)).mono ?_
            rintro e w8 ⟨rfl, hx9⟩
            rw [meets2 HA0.out]
            have hx84 := hx9
            have w8x := Ext.trans X4 hx9
            clear hx9
            go_wp2_with fail
            refine (won_any qp gp qn qc gn gc (v0 ++ v1) l _ (HQ.out.ext hx84) (HG.out.ext w8x) (by omega)).mono ?_
            rintro e w9 ⟨rfl, hx9⟩
            rw [meets3 (.inl HA0.out)]
            have w9x := Ext.trans w8x hx9
            clear hx9
            go_wp2_with fail
            refine (won_any gp gp gn gc gn gc l l _ (HG.out.ext w9x) (HG.out.ext w9x) (by omega)).mono ?_
            rintro e wz ⟨rfl, hx9⟩
            rw [meets4, HG.out.1]
            have hfin := Ext.trans hx0 (Ext.trans w9x hx9)
            by_cases hg0 : 0 < gn
            · rw [decide_eq_true hg0]
              have hg1 : (0 : Int) < (gn : Int) := by omega
              go_wp2
              go_ret
              exact ⟨rfl, hfin⟩
            · rw [decide_eq_false hg0]
              have hg1 : ¬ (0 : Int) < (gn : Int) := by omega
              go_wp2
              go_ret
              exact ⟨rfl, hfin⟩
          · obtain rfl : M = true := by rw [← HM.out]; exact meets1 HA0.out HA1.out
            go_wp2_with (first | (at_builtin; refine Lay.wpList_append (E := Lay.int .i64) rfl (.tmp 104) (.tmp 105) 22 rfl wr.heap.size 3 j0 (.int .i64 0) 8 Try.underlying22 hj0 hy0 hy1 hy2 rfl _ ([]) rfl (HO0.out) (p1) n1 c1 (v0) rfl G1.out k1 (H1.out.keep (Ext.trans hx0 hxa) fun k hk => Nat.le_trans hx0.size (HO0.out.lt k hk).1) (by have := HL1.out; unfold maxLen; omega) (by have := HL1.out; omega) hxa.size ?_; intro v2 w2 hown2 hg2; have X2 := HO0.out.below hxa (Nat.le_refl _) hg2; rw [List.nil_append] at hown2; have HO2 := Lib.hid hown2; have HL2 : Hid (v0.length + n2 ≤ 60) := Lib.hid (by have := Q1.out; have := Q2.out; have := H1.out.1; omega); clear hown2 hg2) | (at_builtin; refine Lay.wpList_append (E := Lay.int .i64) rfl (.tmp 106) (.tmp 107) 22 rfl wr.heap.size 3 j0 (.int .i64 0) 8 Try.underlying22 hj0 hy0 hy1 hy2 rfl _ (v0) rfl (HO2.out) (p2) n2 c2 (v1) rfl G2.out k2 (H2.out.keep (Ext.trans hx0 X2) fun k hk => Nat.le_trans hx0.size (HO2.out.lt k hk).1) (by have := HL2.out; unfold maxLen; omega) (by have := HL2.out; omega) X2.size ?_; intro v4 w4 hown4 hg4; have X4 := HO2.out.below X2 (Nat.le_refl _) hg4; obtain ⟨qp, qn, qc, rfl, hq, hq2, hq3, hq4⟩ := hown4.sl; have HQ := Lib.hid hq.ints.1; clear hq hq4 hown4 hg4))
            refine (won_any rp gp rn rc gn gc (rest v0 l) l _ (HRI.out.ext X4) (HG.out.ext X4) (by omega)).mono ?_
            rintro e w8 ⟨rfl, hx9⟩
            rw [meets2 HA0.out]
            have hx84 := hx9
            have w8x := Ext.trans X4 hx9
            clear hx9
            go_wp2_with fail
            refine (won_any qp gp qn qc gn gc (v0 ++ v1) l _ (HQ.out.ext hx84) (HG.out.ext w8x) (by omega)).mono ?_
            rintro e w9 ⟨rfl, hx9⟩
            rw [meets3 (.inl HA0.out)]
            have w9x := Ext.trans w8x hx9
            clear hx9
            go_wp2_with fail
            refine (won_any gp gp gn gc gn gc l l _ (HG.out.ext w9x) (HG.out.ext w9x) (by omega)).mono ?_
            rintro e wz ⟨rfl, hx9⟩
            rw [meets4, HG.out.1]
            have hfin := Ext.trans hx0 (Ext.trans w9x hx9)
            by_cases hg0 : 0 < gn
            · rw [decide_eq_true hg0]
              have hg1 : (0 : Int) < (gn : Int) := by omega
              go_wp2
              go_ret
              exact ⟨rfl, hfin⟩
            · rw [decide_eq_false hg0]
              have hg1 : ¬ (0 : Int) < (gn : Int) := by omega
              go_wp2
              go_ret
              exact ⟨rfl, hfin⟩

end Go.Proofs.Ytmcenioblbcehaa.Lg
