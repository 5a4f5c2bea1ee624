/- Logs: what is committed; the walk of LogCommits. -/
import Derived.Test.YtppckbhbgohbiaaLogJ
import Derived.Test.YtppckbhbgohbiaaOwn2
namespace Go.Proofs.Ytppckbhbgohbiaa.Lg
open Go.RowKit Go.Proofs.Ytppckbhbgohbiaa
set_option linter.unusedVariables false

theorem topC_cases (l : List Ent) (t : Int) (ms : List Int) (was : Int) : ∀ n : Nat, topC l t ms was n = was ∨ ∃ k : Nat, k < n ∧ topC l t ms was n = (k : Int) + 1 ∧ was < (k : Int) + 1 ∧ (l.getD k (0, [])).1 = t ∧ ms.length < 2 * reach ms ((k : Int) + 1)
  | 0 => .inl rfl
  | n + 1 => by
    unfold topC
    by_cases c : was < (n : Int) + 1 ∧ (l.getD n (0, [])).1 = t ∧ ms.length < 2 * reach ms ((n : Int) + 1)
    · rw [if_pos c]; exact .inr ⟨n, by omega, rfl, c⟩
    · rw [if_neg c]
      rcases topC_cases l t ms was n with h | ⟨k, h1, h2⟩
      · exact .inl h
      · exact .inr ⟨k, by omega, h2⟩
theorem topC_ge (l : List Ent) (t : Int) (ms : List Int) (was : Int) (n : Nat) : was ≤ topC l t ms was n := by
  rcases topC_cases l t ms was n with h | ⟨k, _, h2, h3, _⟩ <;> omega
theorem topC_max (l : List Ent) (t : Int) (ms : List Int) (was : Int) : ∀ (n k : Nat), k < n → topC l t ms was n < (k : Int) + 1 → ¬ ((l.getD k (0, [])).1 = t ∧ ms.length < 2 * reach ms ((k : Int) + 1))
  | n + 1, k, hk, h => by
    unfold topC at h
    by_cases c : was < (n : Int) + 1 ∧ (l.getD n (0, [])).1 = t ∧ ms.length < 2 * reach ms ((n : Int) + 1)
    · rw [if_pos c] at h; omega
    · rw [if_neg c] at h
      by_cases e : k = n
      · subst e
        have := topC_ge l t ms was k
        exact fun h2 => c ⟨by omega, h2⟩
      · exact topC_max l t ms was n k (by omega) h
theorem topC_still (l : List Ent) (t : Int) (ms : List Int) (p : Int) : ∀ n : Nat, (∀ k : Nat, k < n → p < (k : Int) + 1 → ¬ ((l.getD k (0, [])).1 = t ∧ ms.length < 2 * reach ms ((k : Int) + 1))) → topC l t ms p n = p
  | 0, _ => rfl
  | n + 1, h => by
    unfold topC
    rw [if_neg (fun c => h n (by omega) c.1 c.2)]
    exact topC_still l t ms p n fun k hk => h k (by omega)
theorem topC_mono (l : List Ent) (t : Int) (a b : List Int) (was : Int) (hl : a.length = b.length) (hr : ∀ x, reach a x ≤ reach b x) : ∀ n : Nat, topC l t a was n ≤ topC l t b was n
  | 0 => Int.le_refl _
  | n + 1 => by
    have ih := topC_mono l t a b was hl hr n
    unfold topC
    by_cases c : was < (n : Int) + 1 ∧ (l.getD n (0, [])).1 = t ∧ a.length < 2 * reach a ((n : Int) + 1)
    · have := hr ((n : Int) + 1)
      rw [if_pos c, if_pos ⟨c.1, c.2.1, by omega⟩]; omega
    · rw [if_neg c]
      by_cases d : was < (n : Int) + 1 ∧ (l.getD n (0, [])).1 = t ∧ b.length < 2 * reach b ((n : Int) + 1)
      · rw [if_pos d]
        rcases topC_cases l t a was n with h | ⟨k, h1, h2, _⟩ <;> omega
      · rw [if_neg d]; exact ih
theorem reach_map_le (f g : Nat → Int) (x : Int) (h : ∀ k, f k ≤ g k) : ∀ n : Nat, reach ((List.range n).map f) x ≤ reach ((List.range n).map g) x
  | 0 => by simp [reach]
  | n + 1 => by
    have ih := reach_map_le f g x h n
    have := h n
    unfold reach at ih ⊢
    simp only [List.range_succ, List.map_append, List.filter_append, List.length_append, List.map_cons, List.map_nil]
    by_cases c : x ≤ f n
    · have d : x ≤ g n := by omega
      simp [c, d]; exact ih
    · by_cases d : x ≤ g n <;> simp [c, d] <;> omega
theorem range_at0 (ms : List Int) : (List.range ms.length).map (at0 ms) = ms := by
  apply List.ext_getElem (by simp)
  intro i h1 h2
  simp [at0, List.getD_eq_getElem?_getD, h2]
def addF (ms mo : List Int) (k : Nat) : Int := at0 ms k + if k < mo.length then at0 mo k else 0
theorem at0_wf {k : IntKind} {ms : List Int} (h : ∀ x ∈ ms, (Lit.int k x).wf = true) {j : Nat} (hj : j < ms.length) : (Lit.int k (at0 ms j)).wf = true := by
  rw [show at0 ms j = ms[j] by simp [at0, List.getD_eq_getElem?_getD, hj]]
  exact h _ (List.getElem_mem hj)
theorem wf_small {x : Int} (h0 : 0 ≤ x) (h1 : x ≤ 100000) : (Lit.int .i64 x).wf = true := by
  simp [Lit.wf, IntKind.min, IntKind.max, IntKind.signed, IntKind.bits]; omega

def AddR (w : World) (ms mo : List Int) (m : Nat) (a b i : Value) (wr : World) : Prop :=
  ∃ k : Nat, k ≤ m ∧ i = .int .i64 k ∧ (Lay.int .i64).Own wr w.heap.size 3 a ((List.range k).map (at0 ms)) ∧ (Lay.int .i64).Own wr w.heap.size 3 b ((List.range k).map (addF ms mo)) ∧ a.ownBlock ≠ b.ownBlock ∧ Ext w wr

def AddP (w : World) (ms mo : List Int) (a b : Value) (w' : World) : Prop :=
  (∃ p c q d, a = .slice p ms.length c ∧ b = .slice q ms.length d ∧ (Lay.int .i64).Row w' p ms.length ms ∧ (Lay.int .i64).Row w' q ms.length ((List.range ms.length).map (addF ms mo))) ∧ Ext w w'

theorem info_int64 : (Try.prog.info? 3).map (fun i => (i.zero, i.size, i.bytes)) = some (some (.int .i64 0), 1, 8) := by kernel_rfl

set_option maxRecDepth 100000 in
set_option maxHeartbeats 4000000 in
theorem commits_walk {p1 p2 p3 : Option Addr} {n1 m mm c1 c2 c3 : Nat} {l : List Ent} {ms mo : List Int} {w : World} (h1 : LEnt.Row w p1 n1 l) (h2 : (Lay.int .u8).Row w p2 m ms) (h3 : (Lay.int .u8).Row w p3 mm mo) (t : Int) {was : Int} (wa : (Lit.int .u8 was).wf = true) :
    Calls Try.prog 8 #[.slice p1 n1 c1, .int .i64 t, .slice p2 m c2, .slice p3 mm c3, .int .u8 was] w fun e w' => e = .returned (.bool true) ∧ Ext w w' := by
  obtain ⟨j0, hj0, hy0, hy1, hy2⟩ := info_parts info_int64
  have b1 := bd_u8 wa
  have H1 := Lib.hid h1
  have H2 := Lib.hid h2.ints
  have H3 := Lib.hid h3.ints
  have hm63 := h2.2.1
  have hmm63 := h3.2.1
  have hx : Ext w w := Ext.refl _
  clear h1 h2 h3 wa
  go_enter Try.func8, Try.ntmps8
  go_wp2_with fail
  refine (head_any _).mono ?_
  rintro e w1 ⟨rfl, hx1⟩
  replace hx := Ext.trans hx hx1
  clear hx1
  go_wp2_with fail
  refine (small_any _ _ _ _ _ (H1.out.ext hx)).mono ?_
  rintro e w1 ⟨B, rfl, hb, hx1⟩
  replace hx := Ext.trans hx hx1
  clear hx1
  cases B
  · clear hb
    go_wp2
    go_ret
    exact ⟨rfl, hx⟩
  have hs1 : n1 ≤ 60 := by have := (hb.1 rfl).1; rw [H1.out.1] at this; exact this
  clear hb
  by_cases h9 : m ≤ 9
  · have g9 : decide ((9 : Int) < (m : Int)) = false := decide_eq_false (by omega)
    have HA0 : Hid ((Lay.int .i64).Own ((w1.alloc (.cells #[] 3)).alloc (.cells #[] 3)) w.heap.size 3 (.slice (some ⟨w1.heap.size, 0, none⟩) 0 0) []) := Lib.hid ((Lay.Own.made (E := Lay.int .i64) w1 #[] 0 _ _ hx.size (by decide) rfl).ext (Ext.alloc _ _))
    have HB0 : Hid ((Lay.int .i64).Own ((w1.alloc (.cells #[] 3)).alloc (.cells #[] 3)) w.heap.size 3 (.slice (some ⟨w1.heap.size + 1, 0, none⟩) 0 0) []) := Lib.hid (by
      have := Lay.Own.made (E := Lay.int .i64) (w1.alloc (.cells #[] 3)) #[] 0 w.heap.size 3 (by have := hx.size; simp; omega) (by decide) rfl
      simpa using this)
    go_wp2
    go_loopw [12, 13, 14, 15] (fun a b i _ wr => AddR w ms mo m a b i wr) (fun _ _ i _ _ => m - (intOf i).toNat)
    case atStart => exact ⟨0, by omega, rfl, HA0.out, HB0.out, by simp [Value.ownBlock], Ext.trans hx (Ext.trans (Ext.alloc _ _) (Ext.alloc _ _))⟩
    case round =>
      clear hx HA0 HB0
      obtain ⟨k, hk, rfl, hoa, hob, hne, hx⟩ := hrel
      have HOA := Lib.hid hoa
      have HOB := Lib.hid hob
      have HNE := Lib.hid hne
      clear hoa hob hne
      by_cases hlt : k < m
      · obtain ⟨b, off, rfl, hc⟩ := H2.out.1.2.2 (by omega)
        have cx := hx.cell (hc k hlt)
        have k0 : (0 : Int) ≤ (k : Int) := by omega
        have k1 : (k : Int) < (m : Int) := by omega
        have hwf := bd_u8 (at0_wf H2.out.2 (j := k) (by rw [H2.out.1.1]; exact hlt))
        have HFA : Hid ((List.range (k + 1)).map (at0 ms) = (List.range k).map (at0 ms) ++ [at0 ms k]) := Lib.hid (by simp [List.range_succ])
        have HFB : Hid ((List.range (k + 1)).map (addF ms mo) = (List.range k).map (addF ms mo) ++ [addF ms mo k]) := Lib.hid (by simp [List.range_succ])
        have HFD : Hid (addF ms mo k = at0 ms k + if k < mm then at0 mo k else 0) := Lib.hid (by unfold addF; rw [H3.out.1.1])
        have H2C := Lib.hid (hc k hlt)
        clear hc
        generalize at0 ms k = x at cx hwf HFA HFD H2C
        have HWX := Lib.hid (wf_small hwf.1 (by omega))
        have cx2 : ∀ w', Ext wr w' → w'.cell? ⟨b, off + k, none⟩ = some (.int .u8 x) := fun w' h => h.cell cx
        have HCX := Lib.hid cx2
        clear cx2
        have HA1 := Lib.hid (HOA.out.ext (Ext.alloc wr (.cells #[.int .i64 x] 3)))
        have hlk : k ≤ 9 := by omega
        by_cases hlt2 : k < mm
        · obtain ⟨b2, off2, rfl, hc2⟩ := H3.out.1.2.2 (by omega)
          have hwf2 := bd_u8 (at0_wf H3.out.2 (j := k) (by rw [H3.out.1.1]; exact hlt2))
          have cy := hx.cell (hc2 k hlt2)
          have H3C := Lib.hid (hc2 k hlt2)
          have k2 : (k : Int) < (mm : Int) := by omega
          have HFE : Hid (addF ms mo k = x + at0 mo k) := Lib.hid (by rw [HFD.out, if_pos hlt2])
          clear hc2 HFD
          generalize at0 mo k = y at cy hwf2 HFE H3C
          have HCYY : Hid (∀ w', Ext wr w' → w'.cell? ⟨b2, off2 + k, none⟩ = some (.int .u8 y)) := Lib.hid fun w' h => h.cell cy
          have HWY : Hid ((Lit.int .i64 (x + y)).wf = true) := Lib.hid (wf_small (by omega) (by omega))
          have HGB := Lib.hid (HOB.out.ext (Ext.alloc wr (.cells #[.int .i64 x] 3)))
          have HLA : Hid (((List.range k).map (at0 ms)).length + 1 ≤ 100) := Lib.hid (by simp; omega)
          have HLB : Hid (((List.range k).map (addF ms mo)).length + 1 ≤ 100) := Lib.hid (by simp; omega)
          go_wp2_with (first | (at_builtin; refine Lay.wpList_append2 (E := Lay.int .i64) rfl (.tmp 38) (.tmp 44) 23 rfl w.heap.size 3 j0 (.int .i64 0) 8 Try.underlying23 hj0 hy0 hy1 hy2 rfl _ ((List.range k).map (at0 ms)) rfl HA1.out (some ⟨wr.heap.size, 0, none⟩) 1 1 [x] rfl (fun _ => ⟨_, _, rfl⟩) (by omega) (Lay.RowK.lit (Ext.refl _) (Lay.single_int HWX.out) rfl rfl (by omega)) (by have := HLA.out; unfold maxLen; omega) (by have := HLA.out; omega) (Ext.trans hx (Ext.alloc _ _)).size ?_; intro v1 w2 hown1 hg1 hat1; have X1 := HA1.out.below (Ext.trans hx (Ext.alloc _ _)) (Nat.le_refl _) hg1; have hcx2 := X1.cell (H2C.out); have hcy2 := X1.cell (H3C.out); have HB1 := Lib.hid (HGB.out.kept (Lay.plain_int .i64) hg1 (fun h => HNE.out h.symm)); have HA2 := Lib.hid hown1; have HN1 := Lib.hid (Lay.apart_append (F := Lay.int .i64) (m := ([] : List Int)) (base2 := 0) (f := 0) HGB.out (fun h => HNE.out h.symm) hat1); have HB2 := Lib.hid (HB1.out.ext (Ext.alloc w2 (.cells #[.int .i64 (x + y)] 3))); have HA3 := Lib.hid (HA2.out.ext (Ext.alloc w2 (.cells #[.int .i64 (x + y)] 3))); have HG1 := Lib.hid hg1; clear hown1 hg1 hat1) | (at_builtin; refine Lay.wpList_append2 (E := Lay.int .i64) rfl (.tmp 62) (.tmp 64) 23 rfl w.heap.size 3 j0 (.int .i64 0) 8 Try.underlying23 hj0 hy0 hy1 hy2 rfl _ ((List.range k).map (addF ms mo)) rfl HB2.out (some ⟨w2.heap.size, 0, none⟩) 1 1 [x + y] rfl (fun _ => ⟨_, _, rfl⟩) (by omega) (Lay.RowK.lit (Ext.refl _) (Lay.single_int HWY.out) rfl rfl (by omega)) (by have := HLB.out; unfold maxLen; omega) (by have := HLB.out; omega) (Ext.trans X1 (Ext.alloc _ _)).size ?_; intro v3 w3 hown3 hg3 hat3))
          have X3 := HB2.out.below (Ext.trans X1 (Ext.alloc _ _)) (Nat.le_refl _) hg3
          have HA4 := Lib.hid (HA3.out.kept (Lay.plain_int .i64) hg3 (fun h => HN1.out h.symm))
          have HN3 := Lib.hid (Lay.apart_append (F := Lay.int .i64) (m := ([] : List Int)) (base2 := 0) (f := 0) HA3.out (fun h => HN1.out h.symm) hat3)
          rw [← HFE.out, ← HFB.out] at hown3
          have HB4 := Lib.hid hown3
          have HA5 := HA4.out
          rw [← HFA.out] at HA5
          have HA6 := Lib.hid HA5
          clear hown3 hg3 hat3 HA5
          go_wp2
          go_roundw
          case rel => exact ⟨k + 1, by omega, by go_num, HA6.out, HB4.out, HN3.out, X3⟩
          case measure => simp [intOf]; omega
        · have k2 : ¬ ((k : Int) < (mm : Int)) := by omega
          have HFE : Hid (addF ms mo k = x) := Lib.hid (by rw [HFD.out, if_neg hlt2]; omega)
          clear HFD
          have HWY : Hid ((Lit.int .i64 (x)).wf = true) := Lib.hid (wf_small (by omega) (by omega))
          have HGB := Lib.hid (HOB.out.ext (Ext.alloc wr (.cells #[.int .i64 x] 3)))
          have HLA : Hid (((List.range k).map (at0 ms)).length + 1 ≤ 100) := Lib.hid (by simp; omega)
          have HLB : Hid (((List.range k).map (addF ms mo)).length + 1 ≤ 100) := Lib.hid (by simp; omega)
          go_wp2_with (first | (at_builtin; refine Lay.wpList_append2 (E := Lay.int .i64) rfl (.tmp 38) (.tmp 44) 23 rfl w.heap.size 3 j0 (.int .i64 0) 8 Try.underlying23 hj0 hy0 hy1 hy2 rfl _ ((List.range k).map (at0 ms)) rfl HA1.out (some ⟨wr.heap.size, 0, none⟩) 1 1 [x] rfl (fun _ => ⟨_, _, rfl⟩) (by omega) (Lay.RowK.lit (Ext.refl _) (Lay.single_int HWX.out) rfl rfl (by omega)) (by have := HLA.out; unfold maxLen; omega) (by have := HLA.out; omega) (Ext.trans hx (Ext.alloc _ _)).size ?_; intro v1 w2 hown1 hg1 hat1; have X1 := HA1.out.below (Ext.trans hx (Ext.alloc _ _)) (Nat.le_refl _) hg1; have hcx2 := X1.cell (H2C.out); have HB1 := Lib.hid (HGB.out.kept (Lay.plain_int .i64) hg1 (fun h => HNE.out h.symm)); have HA2 := Lib.hid hown1; have HN1 := Lib.hid (Lay.apart_append (F := Lay.int .i64) (m := ([] : List Int)) (base2 := 0) (f := 0) HGB.out (fun h => HNE.out h.symm) hat1); have HB2 := Lib.hid (HB1.out.ext (Ext.alloc w2 (.cells #[.int .i64 (x)] 3))); have HA3 := Lib.hid (HA2.out.ext (Ext.alloc w2 (.cells #[.int .i64 (x)] 3))); have HG1 := Lib.hid hg1; clear hown1 hg1 hat1) | (at_builtin; refine Lay.wpList_append2 (E := Lay.int .i64) rfl (.tmp 62) (.tmp 64) 23 rfl w.heap.size 3 j0 (.int .i64 0) 8 Try.underlying23 hj0 hy0 hy1 hy2 rfl _ ((List.range k).map (addF ms mo)) rfl HB2.out (some ⟨w2.heap.size, 0, none⟩) 1 1 [x] rfl (fun _ => ⟨_, _, rfl⟩) (by omega) (Lay.RowK.lit (Ext.refl _) (Lay.single_int HWY.out) rfl rfl (by omega)) (by have := HLB.out; unfold maxLen; omega) (by have := HLB.out; omega) (Ext.trans X1 (Ext.alloc _ _)).size ?_; intro v3 w3 hown3 hg3 hat3))
          have X3 := HB2.out.below (Ext.trans X1 (Ext.alloc _ _)) (Nat.le_refl _) hg3
          have HA4 := Lib.hid (HA3.out.kept (Lay.plain_int .i64) hg3 (fun h => HN1.out h.symm))
          have HN3 := Lib.hid (Lay.apart_append (F := Lay.int .i64) (m := ([] : List Int)) (base2 := 0) (f := 0) HA3.out (fun h => HN1.out h.symm) hat3)
          rw [← HFE.out, ← HFB.out] at hown3
          have HB4 := Lib.hid hown3
          have HA5 := HA4.out
          rw [← HFA.out] at HA5
          have HA6 := Lib.hid HA5
          clear hown3 hg3 hat3 HA5
          go_wp2
          go_roundw
          case rel => exact ⟨k + 1, by omega, by go_num, HA6.out, HB4.out, HN3.out, X3⟩
          case measure => simp [intOf]; omega
      · obtain rfl : k = m := by omega
        have hoa := HOA.out
        have hml : Hid (ms.length = k) := H2.out.1.1
        have e1 : (List.range k).map (at0 ms) = ms := by rw [← hml.out]; exact range_at0 ms
        rw [e1] at hoa
        obtain ⟨pa, na, ca, rfl, hra, _⟩ := hoa.sl
        obtain ⟨pb, nb, cb, rfl, hrb, _⟩ := HOB.out.sl
        obtain rfl : na = k := by rw [← hra.1, hml.out]
        obtain rfl : nb = na := by rw [← hrb.1]; simp
        have HRA := Lib.hid hra.ints.1
        have HRB := Lib.hid hrb.ints.1
        have HP1 : Hid (was ≤ commitL l t ms was ∧ commitL l t ms was ≤ commitL l t ((List.range nb).map (addF ms mo)) was) := Lib.hid ⟨topC_ge _ _ _ _ _, by
          refine topC_mono l t ms _ was (by simp [hml.out]) (fun x => ?_) _
          have := reach_map_le (at0 ms) (addF ms mo) x (fun j => by
            unfold addF
            have h0 : 0 ≤ if j < mo.length then at0 mo j else 0 := by
              by_cases c : j < mo.length
              · rw [if_pos c]; exact (bd_u8 (at0_wf H3.out.2 c)).1
              · rw [if_neg c]; omega
            omega) nb
          rwa [e1] at this⟩
        have HC1 : Hid (commitL l t ms was = was ∨ ∃ j : Nat, j < n1 ∧ commitL l t ms was = (j : Int) + 1 ∧ was < (j : Int) + 1 ∧ (l.getD j (0, [])).1 = t ∧ nb < 2 * reach ms ((j : Int) + 1)) := Lib.hid (by
          have := topC_cases l t ms was l.length
          rw [H1.out.1, hml.out] at this
          have e2 : commitL l t ms was = topC l t ms was n1 := by unfold commitL; rw [H1.out.1]
          rw [e2]; exact this)
        have HC2 : Hid (∀ P, commitL l t ms was = P → commitL l t ms P = P) := Lib.hid (fun P hP => topC_still l t ms P _ (fun j hj hlt2 => topC_max l t ms was _ j hj (by unfold commitL at hP; omega)))
        clear hoa hra hrb HOA HOB HNE e1 hlt
        go_wp2_with fail
        refine (commit_any _ _ _ _ _ _ _ _ _ (H1.out.ext hx) HRA.out (by omega) t was).mono ?_
        rintro e w2 ⟨rfl, hx1⟩
        replace HRA := Lib.hid (HRA.out.ext hx1)
        replace HRB := Lib.hid (HRB.out.ext hx1)
        replace hx := Ext.trans hx hx1
        clear hx1
        go_wp2_with fail
        refine (commit_any _ _ _ _ _ _ _ _ _ (H1.out.ext hx) HRB.out (by omega) t was).mono ?_
        rintro e w3 ⟨rfl, hx1⟩
        replace HRA := Lib.hid (HRA.out.ext hx1)
        replace hx := Ext.trans hx hx1
        clear hx1 HRB
        generalize commitL l t ((List.range nb).map (addF ms mo)) was = Q at HP1 ⊢
        generalize hPP : commitL l t ms was = P at HP1 HC1 HC2 ⊢
        have HPP := Lib.hid (HC2.out P rfl)
        have hp1 := HP1.out
        have g1 : decide (P < was) = false := decide_eq_false (by omega)
        have g2 : decide (Q < P) = false := decide_eq_false (by omega)
        clear HP1 HC2 hPP
        by_cases hpw : P = was
        · have g3 : (P == was) = true := by simp [hpw]
          clear hpw
          go_wp2
          go_ret
          exact ⟨rfl, hx⟩
        · obtain ⟨j, hj, hPj, hwj, hT, hR⟩ : ∃ j : Nat, j < n1 ∧ P = (j : Int) + 1 ∧ was < (j : Int) + 1 ∧ (l.getD j (0, [])).1 = t ∧ nb < 2 * reach ms ((j : Int) + 1) := HC1.out.resolve_left hpw
          subst hPj
          have g3 : (((j : Int) + 1) == was) = false := by simp [hpw]
          have HR := Lib.hid hR
          have HTT := Lib.hid hT
          clear hpw HC1 hR hT
          go_wp2
          go_loop [18, 19] (fun c i => ReachR ms ((j : Int) + 1) nb c i) (fun _ i => nb - (intOf i).toNat)
          case atStart => exact ⟨0, by omega, rfl, rfl⟩
          case round =>
            obtain ⟨k, hk, rfl, rfl⟩ := hrel
            have hle := reach_le (ms.take k) ((j : Int) + 1)
            have hl : (ms.take k).length ≤ k := List.length_take_le _ _
            by_cases hlt : k < nb
            · obtain ⟨b, off, rfl, hc⟩ := HRA.out.2.2 (by omega)
              have hc0 := hc k hlt
              have hlt' : (k : Int) < (nb : Int) := by omega
              have hlt0 : (0 : Int) ≤ (k : Int) := by omega
              have HS := Lib.hid (reach_snoc ms ((j : Int) + 1) k (by rw [hml.out]; exact hlt))
              clear hc
              generalize reach (ms.take k) ((j : Int) + 1) = R at HS hle ⊢
              by_cases hge : (j : Int) + 1 ≤ at0 ms k
              · have g1 : decide ((j : Int) + 1 ≤ at0 ms k) = true := decide_eq_true hge
                have HG := Lib.hid hge
                go_wp2
                go_round
                case rel => exact ⟨k + 1, by omega, by go_num, by rw [HS.out, if_pos HG.out]; go_num⟩
                case measure => simp [intOf]; omega
              · have HG := Lib.hid hge
                have g2 : at0 ms k < (j : Int) + 1 := by omega
                clear hge
                go_wp2
                go_round
                case rel => exact ⟨k + 1, by omega, by go_num, by rw [HS.out, if_neg HG.out]; go_num⟩
                case measure => simp [intOf]; omega
            · obtain rfl : k = nb := by omega
              have e0 : ms.take k = ms := List.take_of_length_le (by rw [hml.out]; omega)
              rw [e0] at hle ⊢
              clear e0 hl
              have gx := ent_get (l := l) (j := j) (by rw [H1.out.1]; exact hj)
              obtain ⟨b, off, _, _, _, rfl, x0, _⟩ := ent_at (H1.out.ext hx) gx
              rw [HTT.out] at x0
              have hRR := HR.out
              generalize reach ms ((j : Int) + 1) = R at hle hRR ⊢
              rw [hml.out] at hle
              have k0 : (0 : Int) ≤ (j : Int) := by omega
              have k1 : (j : Int) < (n1 : Int) := by omega
              have z1 : decide ((j : Int) + 1 ≤ (n1 : Int)) = true := decide_eq_true (by omega)
              have z2 : decide ((1 : Int) ≤ (j : Int) + 1) = true := decide_eq_true (by omega)
              have z3 : (t == t) = true := by simp
              have z4 : decide ((k : Int) < 2 * (R : Int)) = true := decide_eq_true (by omega)
              have hwr : IntKind.i64.wrap ((j : Int) + 1 - 1) = (j : Int) := by rw [IntWalk.i64_in _ (by omega)]; omega
              clear gx HR HTT hRR
              go_wp2_with fail
              refine (commit_any _ _ _ _ _ _ _ _ _ (H1.out.ext hx) HRA.out (by omega) t _).mono ?_
              rintro e w4 ⟨rfl, hx1⟩
              rw [HPP.out]
              replace hx := Ext.trans hx hx1
              have z5 : (((j : Int) + 1) == ((j : Int) + 1)) = true := by simp
              go_wp2
              go_ret
              exact ⟨rfl, hx⟩
  · have g9 : decide ((9 : Int) < (m : Int)) = true := decide_eq_true (by omega)
    go_wp2
    go_ret
    exact ⟨rfl, hx⟩
end Go.Proofs.Ytppckbhbgohbiaa.Lg
