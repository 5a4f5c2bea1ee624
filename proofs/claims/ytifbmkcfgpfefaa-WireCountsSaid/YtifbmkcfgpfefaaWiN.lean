/- Messages: the reference's Send. -/
import Derived.Test.YtifbmkcfgpfefaaWiK
import Derived.Test.YtifbmkcfgpfefaaWiM
import Derived.Deep.RegionHeld3
namespace Go.Proofs.Ytifbmkcfgpfefaa.Wi
open Go.RowKit Go.Proofs.Ytifbmkcfgpfefaa
set_option linter.unusedVariables false

set_option maxRecDepth 100000 in
set_option maxHeartbeats 8000000 in
theorem rsend_v (p : Option Addr) (n c : Nat) (l : List Mg) (x : Mg) (p1 : Option Addr) (n1 c1 : Nat) (q1 : Option Addr) (m1 d1 : Nat) (f : Int) (w : World) (hl : LMg.Sl w (.slice p n c) l) (hx0 : MgC w x p1 n1 c1 q1 m1 d1) (hb : n ≤ 1000) :
    Calls Try.prog 15 #[.slice p n c, .agg #[.int .i64 x.a, .int .i64 x.b, .int .i64 x.k, .slice p1 n1 c1, .slice q1 m1 d1], .int .i64 f] w fun e w' => (∃ v, e = .returned v ∧ LMg.Sl w' v (sendS l x f)) ∧ Ext w w' := by
  obtain ⟨i0, hi0, hzi0, hzi1, hzi2⟩ := info_parts info_mg
  have hln : l.length = n := (sl_parts hl).1.1
  obtain ⟨hrow, hnc, hcm, hpl⟩ := sl_parts hl
  have hn63 : n ≤ 9223372036854775807 := hrow.2.1
  have HP := Lib.hid hrow
  have HPL := Lib.hid hpl
  have HX0 := Lib.hid hx0
  have HLN := Lib.hid hln
  have HNB := Lib.hid hb
  have HXA : Hid (Ext w (w.alloc (.cells #[.int .i64 x.a, .int .i64 x.b, .int .i64 x.k, .slice p1 n1 c1, .slice q1 m1 d1] 26))) := Lib.hid (Ext.alloc _ _)
  have HO0 : Hid (LMg.Own ((w.alloc (.cells #[.int .i64 x.a, .int .i64 x.b, .int .i64 x.k, .slice p1 n1 c1, .slice q1 m1 d1] 26)).alloc (.cells #[] 26)) (w.heap.size + 1) 26 (.slice (some ⟨w.heap.size + 1, 0, none⟩) 0 0) []) := Lib.hid (by
    have h := Lay.Own.made (E := LMg) (w.alloc (.cells #[.int .i64 x.a, .int .i64 x.b, .int .i64 x.k, .slice p1 n1 c1, .slice q1 m1 d1] 26)) #[] 0 (w.heap.size + 1) 26 (by simp) (by decide) rfl
    simpa using h)
  have HX00 : Hid (Ext (w.alloc (.cells #[.int .i64 x.a, .int .i64 x.b, .int .i64 x.k, .slice p1 n1 c1, .slice q1 m1 d1] 26)) ((w.alloc (.cells #[.int .i64 x.a, .int .i64 x.b, .int .i64 x.k, .slice p1 n1 c1, .slice q1 m1 d1] 26)).alloc (.cells #[] 26))) := Lib.hid (Ext.alloc _ _)
  clear hl hx0 hln hb hrow hpl
  by_cases hful : 200 ≤ n
  · have h1 : (200 : Int) ≤ (n : Int) := by omega
    have hs : sendS l x f = l := by unfold sendS; rw [if_pos (by rw [HLN.out]; exact hful)]
    have HS := Lib.hid hs
    clear hs
    go_enter Try.func15, Try.ntmps15
    go_wp2_with (at_builtin; refine Lay.wpList_append (E := LMg) rfl (.tmp 8) (.tmp 9) 22 rfl (w.heap.size + 1) 26 i0 (.agg #[.int .i64 0, .int .i64 0, .int .i64 0, .slice none 0 0, .slice none 0 0]) 72 Try.underlying22 hi0 hzi0 hzi1 hzi2 rfl (.slice (some ⟨w.heap.size + 1, 0, none⟩) 0 0) [] rfl HO0.out p n c l rfl HPL.out (by omega) (HP.out.keep (Ext.trans HXA.out HX00.out) (fun k hk => by have := (HO0.out.lt k hk).1; omega)) (by have := HNB.out; unfold maxLen; simp; omega) (by have := HNB.out; simp; omega) (by simp) ?_; intro v3 w3 hown3 hg3; have HX3 := Lib.hid (HO0.out.below HX00.out (by simp) hg3); have HO3 : Hid (LMg.Own w3 (w.heap.size + 1) 26 v3 l) := Lib.hid (by simpa using hown3); clear hown3 hg3; obtain ⟨f0, f1, f2, f3, f4⟩ := box5 HX3.out; have HXC3 : Hid (Ext (w.alloc (.cells #[.int .i64 x.a, .int .i64 x.b, .int .i64 x.k, .slice p1 n1 c1, .slice q1 m1 d1] 26)) (w3.alloc (.cells #[.int .i64 x.a, .int .i64 x.b, .int .i64 x.k, .slice p1 n1 c1, .slice q1 m1 d1] 26))) := Lib.hid (Ext.trans HX3.out (Ext.alloc _ _)); have HOA3 : Hid (LMg.Own (w3.alloc (.cells #[.int .i64 x.a, .int .i64 x.b, .int .i64 x.k, .slice p1 n1 c1, .slice q1 m1 d1] 26)) (w.heap.size + 1) 26 v3 (l)) := Lib.hid (HO3.out.ext (Ext.alloc _ _)); have HRK3 : Hid (LMg.RowK (w3.alloc (.cells #[.int .i64 x.a, .int .i64 x.b, .int .i64 x.k, .slice p1 n1 c1, .slice q1 m1 d1] 26)) v3.ownBlock (some ⟨w3.heap.size, 0, none⟩) 1 [x]) := Lib.hid (Lay.RowK.lit (Ext.refl _) (mg_keep HX0.out (Ext.trans HXA.out HXC3.out) (fun k hk => (by have := (HOA3.out.lt k hk).1; omega))) rfl rfl (by decide)); obtain ⟨pv3, nv3, cv3, rfl⟩ := own_form HO3.out; obtain rfl : n = nv3 := by (have := (sl_parts HO3.out.sl).1.1; have := HLN.out; omega))
    go_wp2
    go_ret
    exact ⟨⟨_, rfl, by rw [HS.out]; exact HO3.out.sl⟩, Ext.trans HXA.out HX3.out⟩
  · have h1 : ¬ (200 : Int) ≤ (n : Int) := by omega
    by_cases f1 : f = 1
    · subst f1
      have hs : sendS l x 1 = l ++ [x] := by unfold sendS; rw [if_neg (by rw [HLN.out]; exact hful), if_pos rfl]
      have HS := Lib.hid hs
      clear hs
      go_enter Try.func15, Try.ntmps15
      go_wp2_with (first | (at_builtin; refine Lay.wpList_append (E := LMg) rfl (.tmp 8) (.tmp 9) 22 rfl (w.heap.size + 1) 26 i0 (.agg #[.int .i64 0, .int .i64 0, .int .i64 0, .slice none 0 0, .slice none 0 0]) 72 Try.underlying22 hi0 hzi0 hzi1 hzi2 rfl (.slice (some ⟨w.heap.size + 1, 0, none⟩) 0 0) [] rfl HO0.out p n c l rfl HPL.out (by omega) (HP.out.keep (Ext.trans HXA.out HX00.out) (fun k hk => by have := (HO0.out.lt k hk).1; omega)) (by have := HNB.out; unfold maxLen; simp; omega) (by have := HNB.out; simp; omega) (by simp) ?_; intro v3 w3 hown3 hg3; have HX3 := Lib.hid (HO0.out.below HX00.out (by simp) hg3); have HO3 : Hid (LMg.Own w3 (w.heap.size + 1) 26 v3 l) := Lib.hid (by simpa using hown3); clear hown3 hg3; obtain ⟨f0, f1, f2, f3, f4⟩ := box5 HX3.out; have HXC3 : Hid (Ext (w.alloc (.cells #[.int .i64 x.a, .int .i64 x.b, .int .i64 x.k, .slice p1 n1 c1, .slice q1 m1 d1] 26)) (w3.alloc (.cells #[.int .i64 x.a, .int .i64 x.b, .int .i64 x.k, .slice p1 n1 c1, .slice q1 m1 d1] 26))) := Lib.hid (Ext.trans HX3.out (Ext.alloc _ _)); have HOA3 : Hid (LMg.Own (w3.alloc (.cells #[.int .i64 x.a, .int .i64 x.b, .int .i64 x.k, .slice p1 n1 c1, .slice q1 m1 d1] 26)) (w.heap.size + 1) 26 v3 (l)) := Lib.hid (HO3.out.ext (Ext.alloc _ _)); have HRK3 : Hid (LMg.RowK (w3.alloc (.cells #[.int .i64 x.a, .int .i64 x.b, .int .i64 x.k, .slice p1 n1 c1, .slice q1 m1 d1] 26)) v3.ownBlock (some ⟨w3.heap.size, 0, none⟩) 1 [x]) := Lib.hid (Lay.RowK.lit (Ext.refl _) (mg_keep HX0.out (Ext.trans HXA.out HXC3.out) (fun k hk => (by have := (HOA3.out.lt k hk).1; omega))) rfl rfl (by decide)); obtain ⟨pv3, nv3, cv3, rfl⟩ := own_form HO3.out; obtain rfl : n = nv3 := by (have := (sl_parts HO3.out.sl).1.1; have := HLN.out; omega)) | (at_builtin; refine Lay.wpList_append (E := LMg) rfl (.tmp 21) (.tmp 23) 22 rfl (w.heap.size + 1) 26 i0 (.agg #[.int .i64 0, .int .i64 0, .int .i64 0, .slice none 0 0, .slice none 0 0]) 72 Try.underlying22 hi0 hzi0 hzi1 hzi2 rfl (.slice pv3 n cv3) (l) rfl HOA3.out (some ⟨w3.heap.size, 0, none⟩) 1 1 [x] rfl (fun _ => ⟨_, _, rfl⟩) (Nat.le_refl _) HRK3.out (by have := HNB.out; have := HLN.out; unfold maxLen; simp; omega) (by have := HNB.out; have := HLN.out; simp; omega) (by have := HXC3.out.size; simp at this; simp; omega) ?_; intro v4 w4 hown4 hg4; have HX4 := Lib.hid (HOA3.out.below HXC3.out (by simp) hg4); have HO4 : Hid (LMg.Own w4 (w.heap.size + 1) 26 v4 (l ++ [x])) := Lib.hid hown4; clear hown4 hg4 f0 f1 f2 f3 f4; obtain ⟨f0, f1, f2, f3, f4⟩ := box5 HX4.out; have HXC4 : Hid (Ext (w.alloc (.cells #[.int .i64 x.a, .int .i64 x.b, .int .i64 x.k, .slice p1 n1 c1, .slice q1 m1 d1] 26)) (w4.alloc (.cells #[.int .i64 x.a, .int .i64 x.b, .int .i64 x.k, .slice p1 n1 c1, .slice q1 m1 d1] 26))) := Lib.hid (Ext.trans HX4.out (Ext.alloc _ _)); have HOA4 : Hid (LMg.Own (w4.alloc (.cells #[.int .i64 x.a, .int .i64 x.b, .int .i64 x.k, .slice p1 n1 c1, .slice q1 m1 d1] 26)) (w.heap.size + 1) 26 v4 (l ++ [x])) := Lib.hid (HO4.out.ext (Ext.alloc _ _)); have HRK4 : Hid (LMg.RowK (w4.alloc (.cells #[.int .i64 x.a, .int .i64 x.b, .int .i64 x.k, .slice p1 n1 c1, .slice q1 m1 d1] 26)) v4.ownBlock (some ⟨w4.heap.size, 0, none⟩) 1 [x]) := Lib.hid (Lay.RowK.lit (Ext.refl _) (mg_keep HX0.out (Ext.trans HXA.out HXC4.out) (fun k hk => (by have := (HOA4.out.lt k hk).1; omega))) rfl rfl (by decide)); obtain ⟨pv4, nv4, cv4, rfl⟩ := own_form HO4.out; obtain rfl : n + 1 = nv4 := by (have h9 := (sl_parts HO4.out.sl).1.1; have := HLN.out; simp at h9; omega)))
      go_wp2
      go_ret
      exact ⟨⟨_, rfl, by rw [HS.out]; exact HO4.out.sl⟩, Ext.trans HXA.out HX4.out⟩
    · have hf1 : (f == 1) = false := by simp [f1]
      by_cases f3 : f = 3
      · subst f3
        have hs : sendS l x 3 = l ++ List.replicate (min (200 - n) 2) x := by unfold sendS; rw [if_neg (by rw [HLN.out]; exact hful), if_neg (by decide), if_pos rfl, HLN.out]
        by_cases h99 : n = 199
        · have hs2 : sendS l x 3 = l ++ [x] := by rw [hs, h99]; rfl
          have HS := Lib.hid hs2
          have h2 : ¬ ((n + 1 : Nat) : Int) < 200 := by omega
          have h2' : ¬ (n : Int) + 1 < 200 := by omega
          have H99 := Lib.hid h99
          clear hs hs2 h99
          go_enter Try.func15, Try.ntmps15
          go_wp2_with (first | (at_builtin; refine Lay.wpList_append (E := LMg) rfl (.tmp 8) (.tmp 9) 22 rfl (w.heap.size + 1) 26 i0 (.agg #[.int .i64 0, .int .i64 0, .int .i64 0, .slice none 0 0, .slice none 0 0]) 72 Try.underlying22 hi0 hzi0 hzi1 hzi2 rfl (.slice (some ⟨w.heap.size + 1, 0, none⟩) 0 0) [] rfl HO0.out p n c l rfl HPL.out (by omega) (HP.out.keep (Ext.trans HXA.out HX00.out) (fun k hk => by have := (HO0.out.lt k hk).1; omega)) (by have := HNB.out; unfold maxLen; simp; omega) (by have := HNB.out; simp; omega) (by simp) ?_; intro v3 w3 hown3 hg3; have HX3 := Lib.hid (HO0.out.below HX00.out (by simp) hg3); have HO3 : Hid (LMg.Own w3 (w.heap.size + 1) 26 v3 l) := Lib.hid (by simpa using hown3); clear hown3 hg3; obtain ⟨f0, f1, f2, f3, f4⟩ := box5 HX3.out; have HXC3 : Hid (Ext (w.alloc (.cells #[.int .i64 x.a, .int .i64 x.b, .int .i64 x.k, .slice p1 n1 c1, .slice q1 m1 d1] 26)) (w3.alloc (.cells #[.int .i64 x.a, .int .i64 x.b, .int .i64 x.k, .slice p1 n1 c1, .slice q1 m1 d1] 26))) := Lib.hid (Ext.trans HX3.out (Ext.alloc _ _)); have HOA3 : Hid (LMg.Own (w3.alloc (.cells #[.int .i64 x.a, .int .i64 x.b, .int .i64 x.k, .slice p1 n1 c1, .slice q1 m1 d1] 26)) (w.heap.size + 1) 26 v3 (l)) := Lib.hid (HO3.out.ext (Ext.alloc _ _)); have HRK3 : Hid (LMg.RowK (w3.alloc (.cells #[.int .i64 x.a, .int .i64 x.b, .int .i64 x.k, .slice p1 n1 c1, .slice q1 m1 d1] 26)) v3.ownBlock (some ⟨w3.heap.size, 0, none⟩) 1 [x]) := Lib.hid (Lay.RowK.lit (Ext.refl _) (mg_keep HX0.out (Ext.trans HXA.out HXC3.out) (fun k hk => (by have := (HOA3.out.lt k hk).1; omega))) rfl rfl (by decide)); obtain ⟨pv3, nv3, cv3, rfl⟩ := own_form HO3.out; obtain rfl : n = nv3 := by (have := (sl_parts HO3.out.sl).1.1; have := HLN.out; omega)) | (at_builtin; refine Lay.wpList_append (E := LMg) rfl (.tmp 21) (.tmp 23) 22 rfl (w.heap.size + 1) 26 i0 (.agg #[.int .i64 0, .int .i64 0, .int .i64 0, .slice none 0 0, .slice none 0 0]) 72 Try.underlying22 hi0 hzi0 hzi1 hzi2 rfl (.slice pv3 n cv3) (l) rfl HOA3.out (some ⟨w3.heap.size, 0, none⟩) 1 1 [x] rfl (fun _ => ⟨_, _, rfl⟩) (Nat.le_refl _) HRK3.out (by have := HNB.out; have := HLN.out; unfold maxLen; simp; omega) (by have := HNB.out; have := HLN.out; simp; omega) (by have := HXC3.out.size; simp at this; simp; omega) ?_; intro v4 w4 hown4 hg4; have HX4 := Lib.hid (HOA3.out.below HXC3.out (by simp) hg4); have HO4 : Hid (LMg.Own w4 (w.heap.size + 1) 26 v4 (l ++ [x])) := Lib.hid hown4; clear hown4 hg4 f0 f1 f2 f3 f4; obtain ⟨f0, f1, f2, f3, f4⟩ := box5 HX4.out; have HXC4 : Hid (Ext (w.alloc (.cells #[.int .i64 x.a, .int .i64 x.b, .int .i64 x.k, .slice p1 n1 c1, .slice q1 m1 d1] 26)) (w4.alloc (.cells #[.int .i64 x.a, .int .i64 x.b, .int .i64 x.k, .slice p1 n1 c1, .slice q1 m1 d1] 26))) := Lib.hid (Ext.trans HX4.out (Ext.alloc _ _)); have HOA4 : Hid (LMg.Own (w4.alloc (.cells #[.int .i64 x.a, .int .i64 x.b, .int .i64 x.k, .slice p1 n1 c1, .slice q1 m1 d1] 26)) (w.heap.size + 1) 26 v4 (l ++ [x])) := Lib.hid (HO4.out.ext (Ext.alloc _ _)); have HRK4 : Hid (LMg.RowK (w4.alloc (.cells #[.int .i64 x.a, .int .i64 x.b, .int .i64 x.k, .slice p1 n1 c1, .slice q1 m1 d1] 26)) v4.ownBlock (some ⟨w4.heap.size, 0, none⟩) 1 [x]) := Lib.hid (Lay.RowK.lit (Ext.refl _) (mg_keep HX0.out (Ext.trans HXA.out HXC4.out) (fun k hk => (by have := (HOA4.out.lt k hk).1; omega))) rfl rfl (by decide)); obtain ⟨pv4, nv4, cv4, rfl⟩ := own_form HO4.out; obtain rfl : n + 1 = nv4 := by (have h9 := (sl_parts HO4.out.sl).1.1; have := HLN.out; simp at h9; omega)))
          go_wp2
          go_ret
          exact ⟨⟨_, rfl, by rw [HS.out]; exact HO4.out.sl⟩, Ext.trans HXA.out HX4.out⟩
        · have hs2 : sendS l x 3 = l ++ [x] ++ [x] := by rw [hs, show min (200 - n) 2 = 2 by omega, List.append_assoc]; rfl
          have HS := Lib.hid hs2
          have h2 : ((n + 1 : Nat) : Int) < 200 := by omega
          have h2' : (n : Int) + 1 < 200 := by omega
          clear hs hs2
          go_enter Try.func15, Try.ntmps15
          go_wp2_with (first | (at_builtin; refine Lay.wpList_append (E := LMg) rfl (.tmp 8) (.tmp 9) 22 rfl (w.heap.size + 1) 26 i0 (.agg #[.int .i64 0, .int .i64 0, .int .i64 0, .slice none 0 0, .slice none 0 0]) 72 Try.underlying22 hi0 hzi0 hzi1 hzi2 rfl (.slice (some ⟨w.heap.size + 1, 0, none⟩) 0 0) [] rfl HO0.out p n c l rfl HPL.out (by omega) (HP.out.keep (Ext.trans HXA.out HX00.out) (fun k hk => by have := (HO0.out.lt k hk).1; omega)) (by have := HNB.out; unfold maxLen; simp; omega) (by have := HNB.out; simp; omega) (by simp) ?_; intro v3 w3 hown3 hg3; have HX3 := Lib.hid (HO0.out.below HX00.out (by simp) hg3); have HO3 : Hid (LMg.Own w3 (w.heap.size + 1) 26 v3 l) := Lib.hid (by simpa using hown3); clear hown3 hg3; obtain ⟨f0, f1, f2, f3, f4⟩ := box5 HX3.out; have HXC3 : Hid (Ext (w.alloc (.cells #[.int .i64 x.a, .int .i64 x.b, .int .i64 x.k, .slice p1 n1 c1, .slice q1 m1 d1] 26)) (w3.alloc (.cells #[.int .i64 x.a, .int .i64 x.b, .int .i64 x.k, .slice p1 n1 c1, .slice q1 m1 d1] 26))) := Lib.hid (Ext.trans HX3.out (Ext.alloc _ _)); have HOA3 : Hid (LMg.Own (w3.alloc (.cells #[.int .i64 x.a, .int .i64 x.b, .int .i64 x.k, .slice p1 n1 c1, .slice q1 m1 d1] 26)) (w.heap.size + 1) 26 v3 (l)) := Lib.hid (HO3.out.ext (Ext.alloc _ _)); have HRK3 : Hid (LMg.RowK (w3.alloc (.cells #[.int .i64 x.a, .int .i64 x.b, .int .i64 x.k, .slice p1 n1 c1, .slice q1 m1 d1] 26)) v3.ownBlock (some ⟨w3.heap.size, 0, none⟩) 1 [x]) := Lib.hid (Lay.RowK.lit (Ext.refl _) (mg_keep HX0.out (Ext.trans HXA.out HXC3.out) (fun k hk => (by have := (HOA3.out.lt k hk).1; omega))) rfl rfl (by decide)); obtain ⟨pv3, nv3, cv3, rfl⟩ := own_form HO3.out; obtain rfl : n = nv3 := by (have := (sl_parts HO3.out.sl).1.1; have := HLN.out; omega)) | (at_builtin; refine Lay.wpList_append (E := LMg) rfl (.tmp 21) (.tmp 23) 22 rfl (w.heap.size + 1) 26 i0 (.agg #[.int .i64 0, .int .i64 0, .int .i64 0, .slice none 0 0, .slice none 0 0]) 72 Try.underlying22 hi0 hzi0 hzi1 hzi2 rfl (.slice pv3 n cv3) (l) rfl HOA3.out (some ⟨w3.heap.size, 0, none⟩) 1 1 [x] rfl (fun _ => ⟨_, _, rfl⟩) (Nat.le_refl _) HRK3.out (by have := HNB.out; have := HLN.out; unfold maxLen; simp; omega) (by have := HNB.out; have := HLN.out; simp; omega) (by have := HXC3.out.size; simp at this; simp; omega) ?_; intro v4 w4 hown4 hg4; have HX4 := Lib.hid (HOA3.out.below HXC3.out (by simp) hg4); have HO4 : Hid (LMg.Own w4 (w.heap.size + 1) 26 v4 (l ++ [x])) := Lib.hid hown4; clear hown4 hg4 f0 f1 f2 f3 f4; obtain ⟨f0, f1, f2, f3, f4⟩ := box5 HX4.out; have HXC4 : Hid (Ext (w.alloc (.cells #[.int .i64 x.a, .int .i64 x.b, .int .i64 x.k, .slice p1 n1 c1, .slice q1 m1 d1] 26)) (w4.alloc (.cells #[.int .i64 x.a, .int .i64 x.b, .int .i64 x.k, .slice p1 n1 c1, .slice q1 m1 d1] 26))) := Lib.hid (Ext.trans HX4.out (Ext.alloc _ _)); have HOA4 : Hid (LMg.Own (w4.alloc (.cells #[.int .i64 x.a, .int .i64 x.b, .int .i64 x.k, .slice p1 n1 c1, .slice q1 m1 d1] 26)) (w.heap.size + 1) 26 v4 (l ++ [x])) := Lib.hid (HO4.out.ext (Ext.alloc _ _)); have HRK4 : Hid (LMg.RowK (w4.alloc (.cells #[.int .i64 x.a, .int .i64 x.b, .int .i64 x.k, .slice p1 n1 c1, .slice q1 m1 d1] 26)) v4.ownBlock (some ⟨w4.heap.size, 0, none⟩) 1 [x]) := Lib.hid (Lay.RowK.lit (Ext.refl _) (mg_keep HX0.out (Ext.trans HXA.out HXC4.out) (fun k hk => (by have := (HOA4.out.lt k hk).1; omega))) rfl rfl (by decide)); obtain ⟨pv4, nv4, cv4, rfl⟩ := own_form HO4.out; obtain rfl : n + 1 = nv4 := by (have h9 := (sl_parts HO4.out.sl).1.1; have := HLN.out; simp at h9; omega)) | (at_builtin; refine Lay.wpList_append (E := LMg) rfl (.tmp 32) (.tmp 34) 22 rfl (w.heap.size + 1) 26 i0 (.agg #[.int .i64 0, .int .i64 0, .int .i64 0, .slice none 0 0, .slice none 0 0]) 72 Try.underlying22 hi0 hzi0 hzi1 hzi2 rfl (.slice pv4 (n + 1) cv4) (l ++ [x]) rfl HOA4.out (some ⟨w4.heap.size, 0, none⟩) 1 1 [x] rfl (fun _ => ⟨_, _, rfl⟩) (Nat.le_refl _) HRK4.out (by have := HNB.out; have := HLN.out; unfold maxLen; simp; omega) (by have := HNB.out; have := HLN.out; simp; omega) (by have := HXC4.out.size; simp at this; simp; omega) ?_; intro v5 w5 hown5 hg5; have HX5 := Lib.hid (HOA4.out.below HXC4.out (by simp) hg5); have HO5 : Hid (LMg.Own w5 (w.heap.size + 1) 26 v5 (l ++ [x] ++ [x])) := Lib.hid hown5; clear hown5 hg5 f0 f1 f2 f3 f4; obtain ⟨f0, f1, f2, f3, f4⟩ := box5 HX5.out; have HXC5 : Hid (Ext (w.alloc (.cells #[.int .i64 x.a, .int .i64 x.b, .int .i64 x.k, .slice p1 n1 c1, .slice q1 m1 d1] 26)) (w5.alloc (.cells #[.int .i64 x.a, .int .i64 x.b, .int .i64 x.k, .slice p1 n1 c1, .slice q1 m1 d1] 26))) := Lib.hid (Ext.trans HX5.out (Ext.alloc _ _)); have HOA5 : Hid (LMg.Own (w5.alloc (.cells #[.int .i64 x.a, .int .i64 x.b, .int .i64 x.k, .slice p1 n1 c1, .slice q1 m1 d1] 26)) (w.heap.size + 1) 26 v5 (l ++ [x] ++ [x])) := Lib.hid (HO5.out.ext (Ext.alloc _ _)); have HRK5 : Hid (LMg.RowK (w5.alloc (.cells #[.int .i64 x.a, .int .i64 x.b, .int .i64 x.k, .slice p1 n1 c1, .slice q1 m1 d1] 26)) v5.ownBlock (some ⟨w5.heap.size, 0, none⟩) 1 [x]) := Lib.hid (Lay.RowK.lit (Ext.refl _) (mg_keep HX0.out (Ext.trans HXA.out HXC5.out) (fun k hk => (by have := (HOA5.out.lt k hk).1; omega))) rfl rfl (by decide)); obtain ⟨pv5, nv5, cv5, rfl⟩ := own_form HO5.out; obtain rfl : n + 1 + 1 = nv5 := by (have h9 := (sl_parts HO5.out.sl).1.1; have := HLN.out; simp at h9; omega)))
          go_wp2
          go_ret
          exact ⟨⟨_, rfl, by rw [HS.out]; exact HO5.out.sl⟩, Ext.trans HXA.out HX5.out⟩
      · have hf3 : (f == 3) = false := by simp [f3]
        by_cases f4 : f = 4
        · subst f4
          by_cases h0 : n = 0
          · subst h0
            have hl0 : l = [] := List.eq_nil_of_length_eq_zero HLN.out
            have hs : sendS l x 4 = l ++ [x] := by rw [hl0]; rfl
            have HS := Lib.hid hs
            clear hs hl0
            go_enter Try.func15, Try.ntmps15
            go_wp2_with (first | (at_builtin; refine Lay.wpList_append (E := LMg) rfl (.tmp 8) (.tmp 9) 22 rfl (w.heap.size + 1) 26 i0 (.agg #[.int .i64 0, .int .i64 0, .int .i64 0, .slice none 0 0, .slice none 0 0]) 72 Try.underlying22 hi0 hzi0 hzi1 hzi2 rfl (.slice (some ⟨w.heap.size + 1, 0, none⟩) 0 0) [] rfl HO0.out p 0 c l rfl HPL.out (by omega) (HP.out.keep (Ext.trans HXA.out HX00.out) (fun k hk => by have := (HO0.out.lt k hk).1; omega)) (by have := HNB.out; unfold maxLen; simp) (by simp) (by simp) ?_; intro v3 w3 hown3 hg3; have HX3 := Lib.hid (HO0.out.below HX00.out (by simp) hg3); have HO3 : Hid (LMg.Own w3 (w.heap.size + 1) 26 v3 l) := Lib.hid (by simpa using hown3); clear hown3 hg3; obtain ⟨f0, f1, f2, f3, f4⟩ := box5 HX3.out; have HXC3 : Hid (Ext (w.alloc (.cells #[.int .i64 x.a, .int .i64 x.b, .int .i64 x.k, .slice p1 n1 c1, .slice q1 m1 d1] 26)) (w3.alloc (.cells #[.int .i64 x.a, .int .i64 x.b, .int .i64 x.k, .slice p1 n1 c1, .slice q1 m1 d1] 26))) := Lib.hid (Ext.trans HX3.out (Ext.alloc _ _)); have HOA3 : Hid (LMg.Own (w3.alloc (.cells #[.int .i64 x.a, .int .i64 x.b, .int .i64 x.k, .slice p1 n1 c1, .slice q1 m1 d1] 26)) (w.heap.size + 1) 26 v3 (l)) := Lib.hid (HO3.out.ext (Ext.alloc _ _)); have HRK3 : Hid (LMg.RowK (w3.alloc (.cells #[.int .i64 x.a, .int .i64 x.b, .int .i64 x.k, .slice p1 n1 c1, .slice q1 m1 d1] 26)) v3.ownBlock (some ⟨w3.heap.size, 0, none⟩) 1 [x]) := Lib.hid (Lay.RowK.lit (Ext.refl _) (mg_keep HX0.out (Ext.trans HXA.out HXC3.out) (fun k hk => (by have := (HOA3.out.lt k hk).1; omega))) rfl rfl (by decide)); obtain ⟨pv3, nv3, cv3, rfl⟩ := own_form HO3.out; obtain rfl : 0 = nv3 := by (have := (sl_parts HO3.out.sl).1.1; have := HLN.out; omega)) | (at_builtin; refine Lay.wpList_append (E := LMg) rfl (.tmp 43) (.tmp 45) 22 rfl (w.heap.size + 1) 26 i0 (.agg #[.int .i64 0, .int .i64 0, .int .i64 0, .slice none 0 0, .slice none 0 0]) 72 Try.underlying22 hi0 hzi0 hzi1 hzi2 rfl (.slice pv3 0 cv3) (l) rfl HOA3.out (some ⟨w3.heap.size, 0, none⟩) 1 1 [x] rfl (fun _ => ⟨_, _, rfl⟩) (Nat.le_refl _) HRK3.out (by have := HNB.out; have := HLN.out; unfold maxLen; simp; omega) (by have := HNB.out; have := HLN.out; simp; omega) (by have := HXC3.out.size; simp at this; simp; omega) ?_; intro v4 w4 hown4 hg4; have HX4 := Lib.hid (HOA3.out.below HXC3.out (by simp) hg4); have HO4 : Hid (LMg.Own w4 (w.heap.size + 1) 26 v4 (l ++ [x])) := Lib.hid hown4; clear hown4 hg4 f0 f1 f2 f3 f4; obtain ⟨f0, f1, f2, f3, f4⟩ := box5 HX4.out; have HXC4 : Hid (Ext (w.alloc (.cells #[.int .i64 x.a, .int .i64 x.b, .int .i64 x.k, .slice p1 n1 c1, .slice q1 m1 d1] 26)) (w4.alloc (.cells #[.int .i64 x.a, .int .i64 x.b, .int .i64 x.k, .slice p1 n1 c1, .slice q1 m1 d1] 26))) := Lib.hid (Ext.trans HX4.out (Ext.alloc _ _)); have HOA4 : Hid (LMg.Own (w4.alloc (.cells #[.int .i64 x.a, .int .i64 x.b, .int .i64 x.k, .slice p1 n1 c1, .slice q1 m1 d1] 26)) (w.heap.size + 1) 26 v4 (l ++ [x])) := Lib.hid (HO4.out.ext (Ext.alloc _ _)); have HRK4 : Hid (LMg.RowK (w4.alloc (.cells #[.int .i64 x.a, .int .i64 x.b, .int .i64 x.k, .slice p1 n1 c1, .slice q1 m1 d1] 26)) v4.ownBlock (some ⟨w4.heap.size, 0, none⟩) 1 [x]) := Lib.hid (Lay.RowK.lit (Ext.refl _) (mg_keep HX0.out (Ext.trans HXA.out HXC4.out) (fun k hk => (by have := (HOA4.out.lt k hk).1; omega))) rfl rfl (by decide)); obtain ⟨pv4, nv4, cv4, rfl⟩ := own_form HO4.out; obtain rfl : 0 + 1 = nv4 := by (have h9 := (sl_parts HO4.out.sl).1.1; have := HLN.out; simp at h9; omega)))
            go_wp2
            go_ret
            exact ⟨⟨_, rfl, by rw [HS.out]; exact HO4.out.sl⟩, Ext.trans HXA.out HX4.out⟩
          · obtain ⟨k, hk⟩ : ∃ k, n = k + 1 := ⟨n - 1, by omega⟩
            have hs : sendS l x 4 = l.take k ++ [x] ++ l.drop k := by unfold sendS; rw [if_neg (by rw [HLN.out]; exact hful), if_neg (by decide), if_neg (by decide), if_pos rfl, HLN.out, hk]; simp
            obtain ⟨y, gy⟩ : ∃ y, l[k]? = some y := ⟨_, List.getElem?_eq_getElem (by rw [HLN.out]; omega)⟩
            have hdk : l.drop k = [y] := by
              have h1 := (List.getElem?_eq_some_iff.1 gy).1
              rw [List.drop_eq_getElem_cons h1, (List.getElem?_eq_some_iff.1 gy).2, List.drop_eq_nil_of_le (by rw [HLN.out]; omega)]
            rw [hdk] at hs
            obtain ⟨b, off, p2, n2, c2, q2, m2, d2, rfl, y0, y1, y2, y3, y4, ty⟩ := mg_at HP.out gy
            have HS := Lib.hid hs
            have HY0 := Lib.hid ty
            have hn0 : (0 : Int) < (n : Int) := by omega
            have hn0' : ¬ (n : Int) = 0 := by omega
            have hnN : 0 < n := by omega
            have hsub : (n : Int) - 1 = (k : Int) := by omega
            have hw1 : IntKind.i64.wrap ((n : Int) - 1) = (n : Int) - 1 := IntWalk.i64_in _ (by omega)
            have hw2 : IntKind.i64.wrap (k : Int) = (k : Int) := IntWalk.i64_in _ (by omega)
            have hk0 : (0 : Int) ≤ (k : Int) := by omega
            have hk1 : (k : Int) < (n : Int) := by omega
            have hsl1 : ∀ W, (Instr.slice 22 (.slice (some ⟨b, off, none⟩) n c) none (some (.int .i64 (k : Int))) none).run Try.prog W = .ok (.slice (some ⟨b, off, none⟩) k c) W := fun W =>
              run_cut_to (P := Try.prog) (t := 22) (e := 26) Try.underlying22 rowsize_mg (some ⟨b, off, none⟩) n c k (k : Int) rfl (by omega) (fun _ => ⟨_, _, rfl⟩) W
            have HPT : Hid (LMg.Row w (some ⟨b, off, none⟩) k (l.take k)) := Lib.hid (HP.out.pre k (by omega))
            have HKC : Hid (k ≤ c) := Lib.hid (by omega)
            have HKB : Hid (k ≤ 1000) := Lib.hid (by have := HNB.out; omega)
            have HTK : Hid ((l.take k).length = k) := Lib.hid (by rw [List.length_take, HLN.out]; omega)
            have HYC : Hid (∀ w', Ext w w' → w'.cell? ⟨b, off + k * 5, none⟩ = some (.int .i64 y.a) ∧ w'.cell? ⟨b, off + k * 5 + 1, none⟩ = some (.int .i64 y.b) ∧ w'.cell? ⟨b, off + k * 5 + 2, none⟩ = some (.int .i64 y.k) ∧ w'.cell? ⟨b, off + k * 5 + 3, none⟩ = some (.slice p2 n2 c2) ∧ w'.cell? ⟨b, off + k * 5 + 4, none⟩ = some (.slice q2 m2 d2)) := Lib.hid fun w' h => ⟨h.cell y0, h.cell y1, h.cell y2, h.cell y3, h.cell y4⟩
            have HSA : Hid (∀ w', Ext (w.alloc (.cells #[.int .i64 x.a, .int .i64 x.b, .int .i64 x.k, .slice p1 n1 c1, .slice q1 m1 d1] 26)) w' → (fun w' : World => w'.cell? ⟨w.heap.size, 0, none⟩ = some (.int .i64 x.a) ∧ w'.cell? ⟨w.heap.size, 1, none⟩ = some (.int .i64 x.b) ∧ w'.cell? ⟨w.heap.size, 2, none⟩ = some (.int .i64 x.k) ∧ w'.cell? ⟨w.heap.size, 3, none⟩ = some (.slice p1 n1 c1) ∧ w'.cell? ⟨w.heap.size, 4, none⟩ = some (.slice q1 m1 d1) ∧ w'.cell? ⟨b, off + k * 5, none⟩ = some (.int .i64 y.a) ∧ w'.cell? ⟨b, off + k * 5 + 1, none⟩ = some (.int .i64 y.b) ∧ w'.cell? ⟨b, off + k * 5 + 2, none⟩ = some (.int .i64 y.k) ∧ w'.cell? ⟨b, off + k * 5 + 3, none⟩ = some (.slice p2 n2 c2) ∧ w'.cell? ⟨b, off + k * 5 + 4, none⟩ = some (.slice q2 m2 d2)) w') := Lib.hid fun w' h => (by obtain ⟨r0, r1, r2, r3, r4⟩ := box5 h; obtain ⟨u0, u1, u2, u3, u4⟩ := HYC.out w' (Ext.trans HXA.out h); exact ⟨r0, r1, r2, r3, r4, u0, u1, u2, u3, u4⟩)
            clear hs hdk gy y0 y1 y2 y3 y4 ty hk
            go_enter Try.func15, Try.ntmps15
            go_wp2_with (at_builtin; refine Lay.wpList_append (E := LMg) rfl (.tmp 8) (.tmp 9) 22 rfl (w.heap.size + 1) 26 i0 (.agg #[.int .i64 0, .int .i64 0, .int .i64 0, .slice none 0 0, .slice none 0 0]) 72 Try.underlying22 hi0 hzi0 hzi1 hzi2 rfl (.slice (some ⟨w.heap.size + 1, 0, none⟩) 0 0) [] rfl HO0.out (some ⟨b, off, none⟩) n c l rfl HPL.out (by omega) (HP.out.keep (Ext.trans HXA.out HX00.out) (fun k hk => by have := (HO0.out.lt k hk).1; omega)) (by have := HNB.out; unfold maxLen; simp; omega) (by have := HNB.out; simp; omega) (by simp) ?_; intro v3 w3 hown3 hg3; have HX3 := Lib.hid (HO0.out.below HX00.out (by simp) hg3); have HO3 : Hid (LMg.Own w3 (w.heap.size + 1) 26 v3 l) := Lib.hid (by simpa using hown3); clear hown3 hg3; obtain ⟨f0, f1, f2, f3, f4⟩ := box5 HX3.out; have HXC3 : Hid (Ext (w.alloc (.cells #[.int .i64 x.a, .int .i64 x.b, .int .i64 x.k, .slice p1 n1 c1, .slice q1 m1 d1] 26)) (w3.alloc (.cells #[.int .i64 x.a, .int .i64 x.b, .int .i64 x.k, .slice p1 n1 c1, .slice q1 m1 d1] 26))) := Lib.hid (Ext.trans HX3.out (Ext.alloc _ _)); have HOA3 : Hid (LMg.Own (w3.alloc (.cells #[.int .i64 x.a, .int .i64 x.b, .int .i64 x.k, .slice p1 n1 c1, .slice q1 m1 d1] 26)) (w.heap.size + 1) 26 v3 (l)) := Lib.hid (HO3.out.ext (Ext.alloc _ _)); have HRK3 : Hid (LMg.RowK (w3.alloc (.cells #[.int .i64 x.a, .int .i64 x.b, .int .i64 x.k, .slice p1 n1 c1, .slice q1 m1 d1] 26)) v3.ownBlock (some ⟨w3.heap.size, 0, none⟩) 1 [x]) := Lib.hid (Lay.RowK.lit (Ext.refl _) (mg_keep HX0.out (Ext.trans HXA.out HXC3.out) (fun k hk => (by have := (HOA3.out.lt k hk).1; omega))) rfl rfl (by decide)); obtain ⟨pv3, nv3, cv3, rfl⟩ := own_form HO3.out; obtain rfl : n = nv3 := by (have := (sl_parts HO3.out.sl).1.1; have := HLN.out; omega))
            obtain ⟨Wd, hWd⟩ : ∃ Wd, w3.drew = Wd := ⟨_, rfl⟩
            have HX0D : Hid (Ext (w.alloc (.cells #[.int .i64 x.a, .int .i64 x.b, .int .i64 x.k, .slice p1 n1 c1, .slice q1 m1 d1] 26)) Wd) := Lib.hid (by rw [← hWd]; exact Ext.trans HX3.out (Ext.drew (Ext.refl _)))
            refine wp_region_held_drew (S := (fun w' : World => w'.cell? ⟨w.heap.size, 0, none⟩ = some (.int .i64 x.a) ∧ w'.cell? ⟨w.heap.size, 1, none⟩ = some (.int .i64 x.b) ∧ w'.cell? ⟨w.heap.size, 2, none⟩ = some (.int .i64 x.k) ∧ w'.cell? ⟨w.heap.size, 3, none⟩ = some (.slice p1 n1 c1) ∧ w'.cell? ⟨w.heap.size, 4, none⟩ = some (.slice q1 m1 d1) ∧ w'.cell? ⟨b, off + k * 5, none⟩ = some (.int .i64 y.a) ∧ w'.cell? ⟨b, off + k * 5 + 1, none⟩ = some (.int .i64 y.b) ∧ w'.cell? ⟨b, off + k * 5 + 2, none⟩ = some (.int .i64 y.k) ∧ w'.cell? ⟨b, off + k * 5 + 3, none⟩ = some (.slice p2 n2 c2) ∧ w'.cell? ⟨b, off + k * 5 + 4, none⟩ = some (.slice q2 m2 d2))) (by kernel_rfl) (HSA.out _ (Ext.trans HX3.out (Ext.drew (Ext.refl _)))) (fun _ => ?_)
            rw [hWd]
            clear hWd f0 f1 f2 f3 f4
            refine wpAnyH_take (i := 1) (oi := ⟨some 55, _, _, _, _, _⟩) (v := .slice (some ⟨b, off, none⟩) n c) rfl (by kernel_rfl) (by kernel_rfl) (by kernel_rfl) (fun _ _ _ h => h) (Or.inl ⟨by rfl, ?_⟩) (HSA.out _ HX0D.out) ?_
            · rintro w' ⟨s1, s2, s3, s4, s5, t1, t2, t3, t4, t5⟩
              go_simp
            try simp only [Act.put, List.setIfInBounds_toArray, List.set_cons_zero, List.set_cons_succ]
            refine wpAnyH_take (i := 2) (oi := ⟨some 56, _, _, _, _, _⟩) (v := .slice (some ⟨b, off, none⟩) n c) rfl (by kernel_rfl) (by kernel_rfl) (by kernel_rfl) (fun _ _ _ h => h) (Or.inl ⟨by rfl, ?_⟩) (HSA.out _ HX0D.out) ?_
            · rintro w' ⟨s1, s2, s3, s4, s5, t1, t2, t3, t4, t5⟩
              go_simp
            try simp only [Act.put, List.setIfInBounds_toArray, List.set_cons_zero, List.set_cons_succ]
            refine wpAnyH_take (i := 3) (oi := ⟨some 57, _, _, _, _, _⟩) (v := .int .i64 (n : Int)) rfl (by kernel_rfl) (by kernel_rfl) (by kernel_rfl) (fun _ _ _ h => h) (Or.inl ⟨by rfl, ?_⟩) (HSA.out _ HX0D.out) ?_
            · rintro w' ⟨s1, s2, s3, s4, s5, t1, t2, t3, t4, t5⟩
              go_simp
            try simp only [Act.put, List.setIfInBounds_toArray, List.set_cons_zero, List.set_cons_succ]
            refine wpAnyH_take (i := 4) (oi := ⟨some 58, _, _, _, _, _⟩) (v := .int .i64 (k : Int)) rfl (by kernel_rfl) (by kernel_rfl) (by kernel_rfl) (fun _ _ _ h => h) (Or.inl ⟨by rfl, ?_⟩) (HSA.out _ HX0D.out) ?_
            · rintro w' ⟨s1, s2, s3, s4, s5, t1, t2, t3, t4, t5⟩
              go_simp
            try simp only [Act.put, List.setIfInBounds_toArray, List.set_cons_zero, List.set_cons_succ]
            refine wpAnyH_take (i := 5) (oi := ⟨some 59, _, _, _, _, _⟩) (v := .slice (some ⟨b, off, none⟩) k c) rfl (by kernel_rfl) (by kernel_rfl) (by kernel_rfl) (fun _ _ _ h => h) (Or.inl ⟨by rfl, ?_⟩) (HSA.out _ HX0D.out) ?_
            · rintro w' ⟨s1, s2, s3, s4, s5, t1, t2, t3, t4, t5⟩
              go_simp
            try simp only [Act.put, List.setIfInBounds_toArray, List.set_cons_zero, List.set_cons_succ]
            refine wpAnyH_take (i := 7) (oi := ⟨some 61, _, _, _, _, _⟩) (v := .agg #[.int .i64 x.a, .int .i64 x.b, .int .i64 x.k, .slice p1 n1 c1, .slice q1 m1 d1]) rfl (by kernel_rfl) (by kernel_rfl) (by kernel_rfl) (fun _ _ _ h => h) (Or.inl ⟨by rfl, ?_⟩) (HSA.out _ HX0D.out) ?_
            · rintro w' ⟨s1, s2, s3, s4, s5, t1, t2, t3, t4, t5⟩
              go_simp
            try simp only [Act.put, List.setIfInBounds_toArray, List.set_cons_zero, List.set_cons_succ]
            refine wpAnyH_take (i := 10) (oi := ⟨some 64, _, _, _, _, _⟩) (v := .slice (some ⟨b, off, none⟩) n c) rfl (by kernel_rfl) (by kernel_rfl) (by kernel_rfl) (fun _ _ _ h => h) (Or.inl ⟨by rfl, ?_⟩) (HSA.out _ HX0D.out) ?_
            · rintro w' ⟨s1, s2, s3, s4, s5, t1, t2, t3, t4, t5⟩
              go_simp
            try simp only [Act.put, List.setIfInBounds_toArray, List.set_cons_zero, List.set_cons_succ]
            refine wpAnyH_take (i := 11) (oi := ⟨some 65, _, _, _, _, _⟩) (v := .slice (some ⟨b, off, none⟩) n c) rfl (by kernel_rfl) (by kernel_rfl) (by kernel_rfl) (fun _ _ _ h => h) (Or.inl ⟨by rfl, ?_⟩) (HSA.out _ HX0D.out) ?_
            · rintro w' ⟨s1, s2, s3, s4, s5, t1, t2, t3, t4, t5⟩
              go_simp
            try simp only [Act.put, List.setIfInBounds_toArray, List.set_cons_zero, List.set_cons_succ]
            refine wpAnyH_take (i := 12) (oi := ⟨some 66, _, _, _, _, _⟩) (v := .int .i64 (n : Int)) rfl (by kernel_rfl) (by kernel_rfl) (by kernel_rfl) (fun _ _ _ h => h) (Or.inl ⟨by rfl, ?_⟩) (HSA.out _ HX0D.out) ?_
            · rintro w' ⟨s1, s2, s3, s4, s5, t1, t2, t3, t4, t5⟩
              go_simp
            try simp only [Act.put, List.setIfInBounds_toArray, List.set_cons_zero, List.set_cons_succ]
            refine wpAnyH_take (i := 13) (oi := ⟨some 67, _, _, _, _, _⟩) (v := .int .i64 (k : Int)) rfl (by kernel_rfl) (by kernel_rfl) (by kernel_rfl) (fun _ _ _ h => h) (Or.inl ⟨by rfl, ?_⟩) (HSA.out _ HX0D.out) ?_
            · rintro w' ⟨s1, s2, s3, s4, s5, t1, t2, t3, t4, t5⟩
              go_simp
            try simp only [Act.put, List.setIfInBounds_toArray, List.set_cons_zero, List.set_cons_succ]
            refine wpAnyH_take (i := 14) (oi := ⟨some 68, _, _, _, _, _⟩) (v := .pointer (some ⟨b, off + k * 5, none⟩)) rfl (by kernel_rfl) (by kernel_rfl) (by kernel_rfl) (fun _ _ _ h => h) (Or.inl ⟨by rfl, ?_⟩) (HSA.out _ HX0D.out) ?_
            · rintro w' ⟨s1, s2, s3, s4, s5, t1, t2, t3, t4, t5⟩
              go_simp
            try simp only [Act.put, List.setIfInBounds_toArray, List.set_cons_zero, List.set_cons_succ]
            refine wpAnyH_take (i := 15) (oi := ⟨some 69, _, _, _, _, _⟩) (v := .agg #[.int .i64 y.a, .int .i64 y.b, .int .i64 y.k, .slice p2 n2 c2, .slice q2 m2 d2]) rfl (by kernel_rfl) (by kernel_rfl) (by kernel_rfl) (fun _ _ _ h => h) (Or.inl ⟨by rfl, ?_⟩) (HSA.out _ HX0D.out) ?_
            · rintro w' ⟨s1, s2, s3, s4, s5, t1, t2, t3, t4, t5⟩
              go_simp
            try simp only [Act.put, List.setIfInBounds_toArray, List.set_cons_zero, List.set_cons_succ]
            refine wpAnyH_ready (rs := [0, 8, 16]) (by kernel_rfl) (by simp) ?_
            refine AllReadyH.cons (o := ⟨some 54, .buildSlice 22 0 #[], _, _, _, _⟩) rfl (fun K hK => ?_) (AllReadyH.cons (o := ⟨some 62, .buildSlice 22 1 #[(0, .tmp 61)], _, _, _, _⟩) rfl (fun K hK => ?_) (AllReadyH.cons (o := ⟨some 70, .buildSlice 22 1 #[(0, .tmp 69)], _, _, _, _⟩) rfl (fun K hK => ?_) AllReadyH.nil))
            · go_simp
              have HX1' : Hid (Ext Wd (Wd.alloc (.cells #[] 26))) := Lib.hid (Ext.alloc _ _)
              have HX1 : Hid (Ext (w.alloc (.cells #[.int .i64 x.a, .int .i64 x.b, .int .i64 x.k, .slice p1 n1 c1, .slice q1 m1 d1] 26)) (Wd.alloc (.cells #[] 26))) := Lib.hid (Ext.trans HX0D.out HX1'.out)
              have HO1 : Hid (LMg.Own (Wd.alloc (.cells #[] 26)) (w.heap.size + 1) 26 (.slice (some ⟨Wd.heap.size, 0, none⟩) 0 0) []) := Lib.hid (Lay.Own.made (E := LMg) Wd #[] 0 (w.heap.size + 1) 26 (by have := HX0D.out.size; simp at this; omega) (by decide) rfl)
              refine hK.out _ _ (HSA.out _ HX1.out) (fun _ => ?_)
              clear hK K
              try simp only [Act.put, List.setIfInBounds_toArray, List.set_cons_zero, List.set_cons_succ]
              generalize Wd.alloc (.cells #[] 26) = V1 at HX1' HX1  HO1 ⊢
              refine wpAnyH_ready (rs := [6, 8, 16]) (by kernel_rfl) (by simp) ?_
              refine AllReadyH.cons (o := ⟨some 60, .call { callee := .builtin .append, args := #[.tmp 54, .tmp 59], argTypes := #[22, 22] }, _, _, _, _⟩) rfl (fun K hK => ?_) (AllReadyH.cons (o := ⟨some 62, .buildSlice 22 1 #[(0, .tmp 61)], _, _, _, _⟩) rfl (fun K hK => ?_) (AllReadyH.cons (o := ⟨some 70, .buildSlice 22 1 #[(0, .tmp 69)], _, _, _, _⟩) rfl (fun K hK => ?_) AllReadyH.nil))
              · refine Lay.step_append2 (E := LMg) rfl (.tmp 54) (.tmp 59) 22 rfl (w.heap.size + 1) 26 i0 (.agg #[.int .i64 0, .int .i64 0, .int .i64 0, .slice none 0 0, .slice none 0 0]) 72 Try.underlying22 hi0 hzi0 hzi1 hzi2 rfl (Value.slice (some ⟨Wd.heap.size, 0, none⟩) 0 0) ([]) rfl HO1.out (some ⟨b, off, none⟩) k c (l.take k) rfl (fun _ => ⟨_, _, rfl⟩) HKC.out (HPT.out.keep (Ext.trans HXA.out HX1.out) (fun k hk => by have := (HO1.out.lt k hk).1; omega)) (by have := HKB.out; have := HTK.out; unfold maxLen; simp; try omega) (by have := HKB.out; have := HTK.out; simp; try omega) (by have := HX1.out.size; simp at this; omega) ?_
                intro v2 V2 hown2 hg2 hbk2
                have HX2 := Lib.hid (HO1.out.below HX1.out (by simp) hg2)
                have HO2 : Hid (LMg.Own V2 (w.heap.size + 1) 26 v2 (l.take k)) := Lib.hid (by simpa using hown2)
                clear hown2 hg2 hbk2
                refine hK.out _ _ (HSA.out _ HX2.out) (fun _ => ?_)
                clear hK K
                try simp only [Act.put, List.setIfInBounds_toArray, List.set_cons_zero, List.set_cons_succ]
                refine wpAnyH_ready (rs := [8, 16]) (by kernel_rfl) (by simp) ?_
                refine AllReadyH.cons (o := ⟨some 62, .buildSlice 22 1 #[(0, .tmp 61)], _, _, _, _⟩) rfl (fun K hK => ?_) (AllReadyH.cons (o := ⟨some 70, .buildSlice 22 1 #[(0, .tmp 69)], _, _, _, _⟩) rfl (fun K hK => ?_) AllReadyH.nil)
                · go_simp
                  have HX3' : Hid (Ext V2 (V2.alloc (.cells #[.int .i64 x.a, .int .i64 x.b, .int .i64 x.k, .slice p1 n1 c1, .slice q1 m1 d1] 26))) := Lib.hid (Ext.alloc _ _)
                  have HX3 : Hid (Ext (w.alloc (.cells #[.int .i64 x.a, .int .i64 x.b, .int .i64 x.k, .slice p1 n1 c1, .slice q1 m1 d1] 26)) (V2.alloc (.cells #[.int .i64 x.a, .int .i64 x.b, .int .i64 x.k, .slice p1 n1 c1, .slice q1 m1 d1] 26))) := Lib.hid (Ext.trans HX2.out HX3'.out)
                  have HB3C := Lib.hid (heap_alloc_new V2 (.cells #[.int .i64 x.a, .int .i64 x.b, .int .i64 x.k, .slice p1 n1 c1, .slice q1 m1 d1] 26))
                  have HO3 := Lib.hid (HO2.out.ext HX3'.out)
                  have HN3C : Hid (v2.ownBlock ≠ some V2.heap.size) := Lib.hid (fun e => by have := (HO2.out.lt _ e).2; omega)
                  refine hK.out _ _ (HSA.out _ HX3.out) (fun _ => ?_)
                  clear hK K
                  try simp only [Act.put, List.setIfInBounds_toArray, List.set_cons_zero, List.set_cons_succ]
                  generalize V2.alloc (.cells #[.int .i64 x.a, .int .i64 x.b, .int .i64 x.k, .slice p1 n1 c1, .slice q1 m1 d1] 26) = V3 at HX3' HX3 HB3C HO3 ⊢
                  refine wpAnyH_ready (rs := [9, 16]) (by kernel_rfl) (by simp) ?_
                  refine AllReadyH.cons (o := ⟨some 63, .call { callee := .builtin .append, args := #[.tmp 60, .tmp 62], argTypes := #[22, 22] }, _, _, _, _⟩) rfl (fun K hK => ?_) (AllReadyH.cons (o := ⟨some 70, .buildSlice 22 1 #[(0, .tmp 69)], _, _, _, _⟩) rfl (fun K hK => ?_) AllReadyH.nil)
                  · refine Lay.step_append2 (E := LMg) rfl (.tmp 60) (.tmp 62) 22 rfl (w.heap.size + 1) 26 i0 (.agg #[.int .i64 0, .int .i64 0, .int .i64 0, .slice none 0 0, .slice none 0 0]) 72 Try.underlying22 hi0 hzi0 hzi1 hzi2 rfl v2 (l.take k) rfl HO3.out (some ⟨V2.heap.size, 0, none⟩) 1 1 [x] rfl (fun _ => ⟨_, _, rfl⟩) (Nat.le_refl _) (rowK_box HB3C.out HN3C.out HX0.out (Ext.trans HXA.out HX3.out) (fun k hk => by have := (HO3.out.lt k hk).1; omega)) (by have := HKB.out; have := HTK.out; unfold maxLen; simp; try omega) (by have := HKB.out; have := HTK.out; simp; try omega) (by have := HX3.out.size; simp at this; omega) ?_
                    intro v4 V4 hown4 hg4 hbk4
                    have HX4 := Lib.hid (HO3.out.below HX3.out (by simp) hg4)
                    have HO4 : Hid (LMg.Own V4 (w.heap.size + 1) 26 v4 (l.take k ++ [x])) := Lib.hid (hown4)
                    have HB4C := Lib.hid (heap_grown HB3C.out hg4 HN3C.out)
                    have HN4C := Lib.hid (ne_append HB3C.out HN3C.out hbk4)
                    clear hown4 hg4 hbk4
                    refine hK.out _ _ (HSA.out _ HX4.out) (fun _ => ?_)
                    clear hK K
                    try simp only [Act.put, List.setIfInBounds_toArray, List.set_cons_zero, List.set_cons_succ]
                    refine wpAnyH_ready (rs := [16]) (by kernel_rfl) (by simp) ?_
                    refine AllReadyH.cons (o := ⟨some 70, .buildSlice 22 1 #[(0, .tmp 69)], _, _, _, _⟩) rfl (fun K hK => ?_) AllReadyH.nil
                    · go_simp
                      have HX5' : Hid (Ext V4 (V4.alloc (.cells #[.int .i64 y.a, .int .i64 y.b, .int .i64 y.k, .slice p2 n2 c2, .slice q2 m2 d2] 26))) := Lib.hid (Ext.alloc _ _)
                      have HX5 : Hid (Ext (w.alloc (.cells #[.int .i64 x.a, .int .i64 x.b, .int .i64 x.k, .slice p1 n1 c1, .slice q1 m1 d1] 26)) (V4.alloc (.cells #[.int .i64 y.a, .int .i64 y.b, .int .i64 y.k, .slice p2 n2 c2, .slice q2 m2 d2] 26))) := Lib.hid (Ext.trans HX4.out HX5'.out)
                      have HB5E := Lib.hid (heap_alloc_new V4 (.cells #[.int .i64 y.a, .int .i64 y.b, .int .i64 y.k, .slice p2 n2 c2, .slice q2 m2 d2] 26))
                      have HB5C := Lib.hid (heap_ext HB4C.out HX5'.out)
                      have HO5 := Lib.hid (HO4.out.ext HX5'.out)
                      have HN5E : Hid (v4.ownBlock ≠ some V4.heap.size) := Lib.hid (fun e => by have := (HO4.out.lt _ e).2; omega)
                      refine hK.out _ _ (HSA.out _ HX5.out) (fun _ => ?_)
                      clear hK K
                      try simp only [Act.put, List.setIfInBounds_toArray, List.set_cons_zero, List.set_cons_succ]
                      generalize V4.alloc (.cells #[.int .i64 y.a, .int .i64 y.b, .int .i64 y.k, .slice p2 n2 c2, .slice q2 m2 d2] 26) = V5 at HX5' HX5 HB5C HB5E HO5 ⊢
                      refine wpAnyH_ready (rs := [17]) (by kernel_rfl) (by simp) ?_
                      refine AllReadyH.cons (o := ⟨some 71, .call { callee := .builtin .append, args := #[.tmp 63, .tmp 70], argTypes := #[22, 22] }, _, _, _, _⟩) rfl (fun K hK => ?_) AllReadyH.nil
                      · refine Lay.step_append2 (E := LMg) rfl (.tmp 63) (.tmp 70) 22 rfl (w.heap.size + 1) 26 i0 (.agg #[.int .i64 0, .int .i64 0, .int .i64 0, .slice none 0 0, .slice none 0 0]) 72 Try.underlying22 hi0 hzi0 hzi1 hzi2 rfl v4 (l.take k ++ [x]) rfl HO5.out (some ⟨V4.heap.size, 0, none⟩) 1 1 [y] rfl (fun _ => ⟨_, _, rfl⟩) (Nat.le_refl _) (rowK_box HB5E.out HN5E.out HY0.out (Ext.trans HXA.out HX5.out) (fun k hk => by have := (HO5.out.lt k hk).1; omega)) (by have := HKB.out; have := HTK.out; unfold maxLen; simp; try omega) (by have := HKB.out; have := HTK.out; simp; try omega) (by have := HX5.out.size; simp at this; omega) ?_
                        intro v6 V6 hown6 hg6 hbk6
                        have HX6 := Lib.hid (HO5.out.below HX5.out (by simp) hg6)
                        have HO6 : Hid (LMg.Own V6 (w.heap.size + 1) 26 v6 (l.take k ++ [x] ++ [y])) := Lib.hid (hown6)
                        have HB6C := Lib.hid (heap_grown HB5C.out hg6 HN4C.out)
                        have HN6C := Lib.hid (ne_append HB5C.out HN4C.out hbk6)
                        have HB6E := Lib.hid (heap_grown HB5E.out hg6 HN5E.out)
                        have HN6E := Lib.hid (ne_append HB5E.out HN5E.out hbk6)
                        obtain ⟨pz, nz, cz, rfl⟩ := own_form HO6.out
                        clear hown6 hg6 hbk6
                        refine hK.out _ _ (HSA.out _ HX6.out) (fun _ => ?_)
                        clear hK K
                        try simp only [Act.put, List.setIfInBounds_toArray, List.set_cons_zero, List.set_cons_succ]
                        refine wpAnyH_take (i := 18) (oi := ⟨some 7, _, _, _, _, _⟩) (v := .slice pz nz cz) rfl (by kernel_rfl) (by kernel_rfl) (by kernel_rfl) (fun _ _ _ h => h) (Or.inl ⟨by rfl, ?_⟩) (HSA.out _ HX6.out) ?_
                        · rintro w' ⟨s1, s2, s3, s4, s5, t1, t2, t3, t4, t5⟩
                          go_simp
                        try simp only [Act.put, List.setIfInBounds_toArray, List.set_cons_zero, List.set_cons_succ]
                        refine wpAnyH_done (by kernel_rfl) ?_ _
                        go_wp2
                        go_ret
                        exact ⟨⟨_, rfl, by rw [HS.out]; exact HO6.out.sl⟩, Ext.trans HXA.out HX6.out⟩
                  · go_simp
                    have HX7' : Hid (Ext V3 (V3.alloc (.cells #[.int .i64 y.a, .int .i64 y.b, .int .i64 y.k, .slice p2 n2 c2, .slice q2 m2 d2] 26))) := Lib.hid (Ext.alloc _ _)
                    have HX7 : Hid (Ext (w.alloc (.cells #[.int .i64 x.a, .int .i64 x.b, .int .i64 x.k, .slice p1 n1 c1, .slice q1 m1 d1] 26)) (V3.alloc (.cells #[.int .i64 y.a, .int .i64 y.b, .int .i64 y.k, .slice p2 n2 c2, .slice q2 m2 d2] 26))) := Lib.hid (Ext.trans HX3.out HX7'.out)
                    have HB7E := Lib.hid (heap_alloc_new V3 (.cells #[.int .i64 y.a, .int .i64 y.b, .int .i64 y.k, .slice p2 n2 c2, .slice q2 m2 d2] 26))
                    have HB7C := Lib.hid (heap_ext HB3C.out HX7'.out)
                    have HO7 := Lib.hid (HO3.out.ext HX7'.out)
                    have HN7E : Hid (v2.ownBlock ≠ some V3.heap.size) := Lib.hid (fun e => by have := (HO3.out.lt _ e).2; omega)
                    refine hK.out _ _ (HSA.out _ HX7.out) (fun _ => ?_)
                    clear hK K
                    try simp only [Act.put, List.setIfInBounds_toArray, List.set_cons_zero, List.set_cons_succ]
                    generalize V3.alloc (.cells #[.int .i64 y.a, .int .i64 y.b, .int .i64 y.k, .slice p2 n2 c2, .slice q2 m2 d2] 26) = V7 at HX7' HX7 HB7C HB7E HO7 ⊢
                    refine wpAnyH_ready (rs := [9]) (by kernel_rfl) (by simp) ?_
                    refine AllReadyH.cons (o := ⟨some 63, .call { callee := .builtin .append, args := #[.tmp 60, .tmp 62], argTypes := #[22, 22] }, _, _, _, _⟩) rfl (fun K hK => ?_) AllReadyH.nil
                    · refine Lay.step_append2 (E := LMg) rfl (.tmp 60) (.tmp 62) 22 rfl (w.heap.size + 1) 26 i0 (.agg #[.int .i64 0, .int .i64 0, .int .i64 0, .slice none 0 0, .slice none 0 0]) 72 Try.underlying22 hi0 hzi0 hzi1 hzi2 rfl v2 (l.take k) rfl HO7.out (some ⟨V2.heap.size, 0, none⟩) 1 1 [x] rfl (fun _ => ⟨_, _, rfl⟩) (Nat.le_refl _) (rowK_box HB7C.out HN3C.out HX0.out (Ext.trans HXA.out HX7.out) (fun k hk => by have := (HO7.out.lt k hk).1; omega)) (by have := HKB.out; have := HTK.out; unfold maxLen; simp; try omega) (by have := HKB.out; have := HTK.out; simp; try omega) (by have := HX7.out.size; simp at this; omega) ?_
                      intro v8 V8 hown8 hg8 hbk8
                      have HX8 := Lib.hid (HO7.out.below HX7.out (by simp) hg8)
                      have HO8 : Hid (LMg.Own V8 (w.heap.size + 1) 26 v8 (l.take k ++ [x])) := Lib.hid (hown8)
                      have HB8C := Lib.hid (heap_grown HB7C.out hg8 HN3C.out)
                      have HN8C := Lib.hid (ne_append HB7C.out HN3C.out hbk8)
                      have HB8E := Lib.hid (heap_grown HB7E.out hg8 HN7E.out)
                      have HN8E := Lib.hid (ne_append HB7E.out HN7E.out hbk8)
                      clear hown8 hg8 hbk8
                      refine hK.out _ _ (HSA.out _ HX8.out) (fun _ => ?_)
                      clear hK K
                      try simp only [Act.put, List.setIfInBounds_toArray, List.set_cons_zero, List.set_cons_succ]
                      refine wpAnyH_ready (rs := [17]) (by kernel_rfl) (by simp) ?_
                      refine AllReadyH.cons (o := ⟨some 71, .call { callee := .builtin .append, args := #[.tmp 63, .tmp 70], argTypes := #[22, 22] }, _, _, _, _⟩) rfl (fun K hK => ?_) AllReadyH.nil
                      · refine Lay.step_append2 (E := LMg) rfl (.tmp 63) (.tmp 70) 22 rfl (w.heap.size + 1) 26 i0 (.agg #[.int .i64 0, .int .i64 0, .int .i64 0, .slice none 0 0, .slice none 0 0]) 72 Try.underlying22 hi0 hzi0 hzi1 hzi2 rfl v8 (l.take k ++ [x]) rfl HO8.out (some ⟨V3.heap.size, 0, none⟩) 1 1 [y] rfl (fun _ => ⟨_, _, rfl⟩) (Nat.le_refl _) (rowK_box HB8E.out HN8E.out HY0.out (Ext.trans HXA.out HX8.out) (fun k hk => by have := (HO8.out.lt k hk).1; omega)) (by have := HKB.out; have := HTK.out; unfold maxLen; simp; try omega) (by have := HKB.out; have := HTK.out; simp; try omega) (by have := HX8.out.size; simp at this; omega) ?_
                        intro v9 V9 hown9 hg9 hbk9
                        have HX9 := Lib.hid (HO8.out.below HX8.out (by simp) hg9)
                        have HO9 : Hid (LMg.Own V9 (w.heap.size + 1) 26 v9 (l.take k ++ [x] ++ [y])) := Lib.hid (hown9)
                        have HB9C := Lib.hid (heap_grown HB8C.out hg9 HN8C.out)
                        have HN9C := Lib.hid (ne_append HB8C.out HN8C.out hbk9)
                        have HB9E := Lib.hid (heap_grown HB8E.out hg9 HN8E.out)
                        have HN9E := Lib.hid (ne_append HB8E.out HN8E.out hbk9)
                        obtain ⟨pz, nz, cz, rfl⟩ := own_form HO9.out
                        clear hown9 hg9 hbk9
                        refine hK.out _ _ (HSA.out _ HX9.out) (fun _ => ?_)
                        clear hK K
                        try simp only [Act.put, List.setIfInBounds_toArray, List.set_cons_zero, List.set_cons_succ]
                        refine wpAnyH_take (i := 18) (oi := ⟨some 7, _, _, _, _, _⟩) (v := .slice pz nz cz) rfl (by kernel_rfl) (by kernel_rfl) (by kernel_rfl) (fun _ _ _ h => h) (Or.inl ⟨by rfl, ?_⟩) (HSA.out _ HX9.out) ?_
                        · rintro w' ⟨s1, s2, s3, s4, s5, t1, t2, t3, t4, t5⟩
                          go_simp
                        try simp only [Act.put, List.setIfInBounds_toArray, List.set_cons_zero, List.set_cons_succ]
                        refine wpAnyH_done (by kernel_rfl) ?_ _
                        go_wp2
                        go_ret
                        exact ⟨⟨_, rfl, by rw [HS.out]; exact HO9.out.sl⟩, Ext.trans HXA.out HX9.out⟩
                · go_simp
                  have HX10' : Hid (Ext V2 (V2.alloc (.cells #[.int .i64 y.a, .int .i64 y.b, .int .i64 y.k, .slice p2 n2 c2, .slice q2 m2 d2] 26))) := Lib.hid (Ext.alloc _ _)
                  have HX10 : Hid (Ext (w.alloc (.cells #[.int .i64 x.a, .int .i64 x.b, .int .i64 x.k, .slice p1 n1 c1, .slice q1 m1 d1] 26)) (V2.alloc (.cells #[.int .i64 y.a, .int .i64 y.b, .int .i64 y.k, .slice p2 n2 c2, .slice q2 m2 d2] 26))) := Lib.hid (Ext.trans HX2.out HX10'.out)
                  have HB10E := Lib.hid (heap_alloc_new V2 (.cells #[.int .i64 y.a, .int .i64 y.b, .int .i64 y.k, .slice p2 n2 c2, .slice q2 m2 d2] 26))
                  have HO10 := Lib.hid (HO2.out.ext HX10'.out)
                  have HN10E : Hid (v2.ownBlock ≠ some V2.heap.size) := Lib.hid (fun e => by have := (HO2.out.lt _ e).2; omega)
                  refine hK.out _ _ (HSA.out _ HX10.out) (fun _ => ?_)
                  clear hK K
                  try simp only [Act.put, List.setIfInBounds_toArray, List.set_cons_zero, List.set_cons_succ]
                  generalize V2.alloc (.cells #[.int .i64 y.a, .int .i64 y.b, .int .i64 y.k, .slice p2 n2 c2, .slice q2 m2 d2] 26) = V10 at HX10' HX10 HB10E HO10 ⊢
                  refine wpAnyH_ready (rs := [8]) (by kernel_rfl) (by simp) ?_
                  refine AllReadyH.cons (o := ⟨some 62, .buildSlice 22 1 #[(0, .tmp 61)], _, _, _, _⟩) rfl (fun K hK => ?_) AllReadyH.nil
                  · go_simp
                    have HX11' : Hid (Ext V10 (V10.alloc (.cells #[.int .i64 x.a, .int .i64 x.b, .int .i64 x.k, .slice p1 n1 c1, .slice q1 m1 d1] 26))) := Lib.hid (Ext.alloc _ _)
                    have HX11 : Hid (Ext (w.alloc (.cells #[.int .i64 x.a, .int .i64 x.b, .int .i64 x.k, .slice p1 n1 c1, .slice q1 m1 d1] 26)) (V10.alloc (.cells #[.int .i64 x.a, .int .i64 x.b, .int .i64 x.k, .slice p1 n1 c1, .slice q1 m1 d1] 26))) := Lib.hid (Ext.trans HX10.out HX11'.out)
                    have HB11C := Lib.hid (heap_alloc_new V10 (.cells #[.int .i64 x.a, .int .i64 x.b, .int .i64 x.k, .slice p1 n1 c1, .slice q1 m1 d1] 26))
                    have HB11E := Lib.hid (heap_ext HB10E.out HX11'.out)
                    have HO11 := Lib.hid (HO10.out.ext HX11'.out)
                    have HN11C : Hid (v2.ownBlock ≠ some V10.heap.size) := Lib.hid (fun e => by have := (HO10.out.lt _ e).2; omega)
                    refine hK.out _ _ (HSA.out _ HX11.out) (fun _ => ?_)
                    clear hK K
                    try simp only [Act.put, List.setIfInBounds_toArray, List.set_cons_zero, List.set_cons_succ]
                    generalize V10.alloc (.cells #[.int .i64 x.a, .int .i64 x.b, .int .i64 x.k, .slice p1 n1 c1, .slice q1 m1 d1] 26) = V11 at HX11' HX11 HB11E HB11C HO11 ⊢
                    refine wpAnyH_ready (rs := [9]) (by kernel_rfl) (by simp) ?_
                    refine AllReadyH.cons (o := ⟨some 63, .call { callee := .builtin .append, args := #[.tmp 60, .tmp 62], argTypes := #[22, 22] }, _, _, _, _⟩) rfl (fun K hK => ?_) AllReadyH.nil
                    · refine Lay.step_append2 (E := LMg) rfl (.tmp 60) (.tmp 62) 22 rfl (w.heap.size + 1) 26 i0 (.agg #[.int .i64 0, .int .i64 0, .int .i64 0, .slice none 0 0, .slice none 0 0]) 72 Try.underlying22 hi0 hzi0 hzi1 hzi2 rfl v2 (l.take k) rfl HO11.out (some ⟨V10.heap.size, 0, none⟩) 1 1 [x] rfl (fun _ => ⟨_, _, rfl⟩) (Nat.le_refl _) (rowK_box HB11C.out HN11C.out HX0.out (Ext.trans HXA.out HX11.out) (fun k hk => by have := (HO11.out.lt k hk).1; omega)) (by have := HKB.out; have := HTK.out; unfold maxLen; simp; try omega) (by have := HKB.out; have := HTK.out; simp; try omega) (by have := HX11.out.size; simp at this; omega) ?_
                      intro v12 V12 hown12 hg12 hbk12
                      have HX12 := Lib.hid (HO11.out.below HX11.out (by simp) hg12)
                      have HO12 : Hid (LMg.Own V12 (w.heap.size + 1) 26 v12 (l.take k ++ [x])) := Lib.hid (hown12)
                      have HB12E := Lib.hid (heap_grown HB11E.out hg12 HN10E.out)
                      have HN12E := Lib.hid (ne_append HB11E.out HN10E.out hbk12)
                      have HB12C := Lib.hid (heap_grown HB11C.out hg12 HN11C.out)
                      have HN12C := Lib.hid (ne_append HB11C.out HN11C.out hbk12)
                      clear hown12 hg12 hbk12
                      refine hK.out _ _ (HSA.out _ HX12.out) (fun _ => ?_)
                      clear hK K
                      try simp only [Act.put, List.setIfInBounds_toArray, List.set_cons_zero, List.set_cons_succ]
                      refine wpAnyH_ready (rs := [17]) (by kernel_rfl) (by simp) ?_
                      refine AllReadyH.cons (o := ⟨some 71, .call { callee := .builtin .append, args := #[.tmp 63, .tmp 70], argTypes := #[22, 22] }, _, _, _, _⟩) rfl (fun K hK => ?_) AllReadyH.nil
                      · refine Lay.step_append2 (E := LMg) rfl (.tmp 63) (.tmp 70) 22 rfl (w.heap.size + 1) 26 i0 (.agg #[.int .i64 0, .int .i64 0, .int .i64 0, .slice none 0 0, .slice none 0 0]) 72 Try.underlying22 hi0 hzi0 hzi1 hzi2 rfl v12 (l.take k ++ [x]) rfl HO12.out (some ⟨V2.heap.size, 0, none⟩) 1 1 [y] rfl (fun _ => ⟨_, _, rfl⟩) (Nat.le_refl _) (rowK_box HB12E.out HN12E.out HY0.out (Ext.trans HXA.out HX12.out) (fun k hk => by have := (HO12.out.lt k hk).1; omega)) (by have := HKB.out; have := HTK.out; unfold maxLen; simp; try omega) (by have := HKB.out; have := HTK.out; simp; try omega) (by have := HX12.out.size; simp at this; omega) ?_
                        intro v13 V13 hown13 hg13 hbk13
                        have HX13 := Lib.hid (HO12.out.below HX12.out (by simp) hg13)
                        have HO13 : Hid (LMg.Own V13 (w.heap.size + 1) 26 v13 (l.take k ++ [x] ++ [y])) := Lib.hid (hown13)
                        have HB13E := Lib.hid (heap_grown HB12E.out hg13 HN12E.out)
                        have HN13E := Lib.hid (ne_append HB12E.out HN12E.out hbk13)
                        have HB13C := Lib.hid (heap_grown HB12C.out hg13 HN12C.out)
                        have HN13C := Lib.hid (ne_append HB12C.out HN12C.out hbk13)
                        obtain ⟨pz, nz, cz, rfl⟩ := own_form HO13.out
                        clear hown13 hg13 hbk13
                        refine hK.out _ _ (HSA.out _ HX13.out) (fun _ => ?_)
                        clear hK K
                        try simp only [Act.put, List.setIfInBounds_toArray, List.set_cons_zero, List.set_cons_succ]
                        refine wpAnyH_take (i := 18) (oi := ⟨some 7, _, _, _, _, _⟩) (v := .slice pz nz cz) rfl (by kernel_rfl) (by kernel_rfl) (by kernel_rfl) (fun _ _ _ h => h) (Or.inl ⟨by rfl, ?_⟩) (HSA.out _ HX13.out) ?_
                        · rintro w' ⟨s1, s2, s3, s4, s5, t1, t2, t3, t4, t5⟩
                          go_simp
                        try simp only [Act.put, List.setIfInBounds_toArray, List.set_cons_zero, List.set_cons_succ]
                        refine wpAnyH_done (by kernel_rfl) ?_ _
                        go_wp2
                        go_ret
                        exact ⟨⟨_, rfl, by rw [HS.out]; exact HO13.out.sl⟩, Ext.trans HXA.out HX13.out⟩
              · go_simp
                have HX14' : Hid (Ext V1 (V1.alloc (.cells #[.int .i64 x.a, .int .i64 x.b, .int .i64 x.k, .slice p1 n1 c1, .slice q1 m1 d1] 26))) := Lib.hid (Ext.alloc _ _)
                have HX14 : Hid (Ext (w.alloc (.cells #[.int .i64 x.a, .int .i64 x.b, .int .i64 x.k, .slice p1 n1 c1, .slice q1 m1 d1] 26)) (V1.alloc (.cells #[.int .i64 x.a, .int .i64 x.b, .int .i64 x.k, .slice p1 n1 c1, .slice q1 m1 d1] 26))) := Lib.hid (Ext.trans HX1.out HX14'.out)
                have HB14C := Lib.hid (heap_alloc_new V1 (.cells #[.int .i64 x.a, .int .i64 x.b, .int .i64 x.k, .slice p1 n1 c1, .slice q1 m1 d1] 26))
                have HO14 := Lib.hid (HO1.out.ext HX14'.out)
                have HN14C : Hid ((Value.slice (some ⟨Wd.heap.size, 0, none⟩) 0 0).ownBlock ≠ some V1.heap.size) := Lib.hid (fun e => by have := (HO1.out.lt _ e).2; omega)
                refine hK.out _ _ (HSA.out _ HX14.out) (fun _ => ?_)
                clear hK K
                try simp only [Act.put, List.setIfInBounds_toArray, List.set_cons_zero, List.set_cons_succ]
                generalize V1.alloc (.cells #[.int .i64 x.a, .int .i64 x.b, .int .i64 x.k, .slice p1 n1 c1, .slice q1 m1 d1] 26) = V14 at HX14' HX14 HB14C HO14 ⊢
                refine wpAnyH_ready (rs := [6, 16]) (by kernel_rfl) (by simp) ?_
                refine AllReadyH.cons (o := ⟨some 60, .call { callee := .builtin .append, args := #[.tmp 54, .tmp 59], argTypes := #[22, 22] }, _, _, _, _⟩) rfl (fun K hK => ?_) (AllReadyH.cons (o := ⟨some 70, .buildSlice 22 1 #[(0, .tmp 69)], _, _, _, _⟩) rfl (fun K hK => ?_) AllReadyH.nil)
                · refine Lay.step_append2 (E := LMg) rfl (.tmp 54) (.tmp 59) 22 rfl (w.heap.size + 1) 26 i0 (.agg #[.int .i64 0, .int .i64 0, .int .i64 0, .slice none 0 0, .slice none 0 0]) 72 Try.underlying22 hi0 hzi0 hzi1 hzi2 rfl (Value.slice (some ⟨Wd.heap.size, 0, none⟩) 0 0) ([]) rfl HO14.out (some ⟨b, off, none⟩) k c (l.take k) rfl (fun _ => ⟨_, _, rfl⟩) HKC.out (HPT.out.keep (Ext.trans HXA.out HX14.out) (fun k hk => by have := (HO14.out.lt k hk).1; omega)) (by have := HKB.out; have := HTK.out; unfold maxLen; simp; try omega) (by have := HKB.out; have := HTK.out; simp; try omega) (by have := HX14.out.size; simp at this; omega) ?_
                  intro v15 V15 hown15 hg15 hbk15
                  have HX15 := Lib.hid (HO14.out.below HX14.out (by simp) hg15)
                  have HO15 : Hid (LMg.Own V15 (w.heap.size + 1) 26 v15 (l.take k)) := Lib.hid (by simpa using hown15)
                  have HB15C := Lib.hid (heap_grown HB14C.out hg15 HN14C.out)
                  have HN15C := Lib.hid (ne_append HB14C.out HN14C.out hbk15)
                  clear hown15 hg15 hbk15
                  refine hK.out _ _ (HSA.out _ HX15.out) (fun _ => ?_)
                  clear hK K
                  try simp only [Act.put, List.setIfInBounds_toArray, List.set_cons_zero, List.set_cons_succ]
                  refine wpAnyH_ready (rs := [9, 16]) (by kernel_rfl) (by simp) ?_
                  refine AllReadyH.cons (o := ⟨some 63, .call { callee := .builtin .append, args := #[.tmp 60, .tmp 62], argTypes := #[22, 22] }, _, _, _, _⟩) rfl (fun K hK => ?_) (AllReadyH.cons (o := ⟨some 70, .buildSlice 22 1 #[(0, .tmp 69)], _, _, _, _⟩) rfl (fun K hK => ?_) AllReadyH.nil)
                  · refine Lay.step_append2 (E := LMg) rfl (.tmp 60) (.tmp 62) 22 rfl (w.heap.size + 1) 26 i0 (.agg #[.int .i64 0, .int .i64 0, .int .i64 0, .slice none 0 0, .slice none 0 0]) 72 Try.underlying22 hi0 hzi0 hzi1 hzi2 rfl v15 (l.take k) rfl HO15.out (some ⟨V1.heap.size, 0, none⟩) 1 1 [x] rfl (fun _ => ⟨_, _, rfl⟩) (Nat.le_refl _) (rowK_box HB15C.out HN15C.out HX0.out (Ext.trans HXA.out HX15.out) (fun k hk => by have := (HO15.out.lt k hk).1; omega)) (by have := HKB.out; have := HTK.out; unfold maxLen; simp; try omega) (by have := HKB.out; have := HTK.out; simp; try omega) (by have := HX15.out.size; simp at this; omega) ?_
                    intro v16 V16 hown16 hg16 hbk16
                    have HX16 := Lib.hid (HO15.out.below HX15.out (by simp) hg16)
                    have HO16 : Hid (LMg.Own V16 (w.heap.size + 1) 26 v16 (l.take k ++ [x])) := Lib.hid (hown16)
                    have HB16C := Lib.hid (heap_grown HB15C.out hg16 HN15C.out)
                    have HN16C := Lib.hid (ne_append HB15C.out HN15C.out hbk16)
                    clear hown16 hg16 hbk16
                    refine hK.out _ _ (HSA.out _ HX16.out) (fun _ => ?_)
                    clear hK K
                    try simp only [Act.put, List.setIfInBounds_toArray, List.set_cons_zero, List.set_cons_succ]
                    refine wpAnyH_ready (rs := [16]) (by kernel_rfl) (by simp) ?_
                    refine AllReadyH.cons (o := ⟨some 70, .buildSlice 22 1 #[(0, .tmp 69)], _, _, _, _⟩) rfl (fun K hK => ?_) AllReadyH.nil
                    · go_simp
                      have HX17' : Hid (Ext V16 (V16.alloc (.cells #[.int .i64 y.a, .int .i64 y.b, .int .i64 y.k, .slice p2 n2 c2, .slice q2 m2 d2] 26))) := Lib.hid (Ext.alloc _ _)
                      have HX17 : Hid (Ext (w.alloc (.cells #[.int .i64 x.a, .int .i64 x.b, .int .i64 x.k, .slice p1 n1 c1, .slice q1 m1 d1] 26)) (V16.alloc (.cells #[.int .i64 y.a, .int .i64 y.b, .int .i64 y.k, .slice p2 n2 c2, .slice q2 m2 d2] 26))) := Lib.hid (Ext.trans HX16.out HX17'.out)
                      have HB17E := Lib.hid (heap_alloc_new V16 (.cells #[.int .i64 y.a, .int .i64 y.b, .int .i64 y.k, .slice p2 n2 c2, .slice q2 m2 d2] 26))
                      have HB17C := Lib.hid (heap_ext HB16C.out HX17'.out)
                      have HO17 := Lib.hid (HO16.out.ext HX17'.out)
                      have HN17E : Hid (v16.ownBlock ≠ some V16.heap.size) := Lib.hid (fun e => by have := (HO16.out.lt _ e).2; omega)
                      refine hK.out _ _ (HSA.out _ HX17.out) (fun _ => ?_)
                      clear hK K
                      try simp only [Act.put, List.setIfInBounds_toArray, List.set_cons_zero, List.set_cons_succ]
                      generalize V16.alloc (.cells #[.int .i64 y.a, .int .i64 y.b, .int .i64 y.k, .slice p2 n2 c2, .slice q2 m2 d2] 26) = V17 at HX17' HX17 HB17C HB17E HO17 ⊢
                      refine wpAnyH_ready (rs := [17]) (by kernel_rfl) (by simp) ?_
                      refine AllReadyH.cons (o := ⟨some 71, .call { callee := .builtin .append, args := #[.tmp 63, .tmp 70], argTypes := #[22, 22] }, _, _, _, _⟩) rfl (fun K hK => ?_) AllReadyH.nil
                      · refine Lay.step_append2 (E := LMg) rfl (.tmp 63) (.tmp 70) 22 rfl (w.heap.size + 1) 26 i0 (.agg #[.int .i64 0, .int .i64 0, .int .i64 0, .slice none 0 0, .slice none 0 0]) 72 Try.underlying22 hi0 hzi0 hzi1 hzi2 rfl v16 (l.take k ++ [x]) rfl HO17.out (some ⟨V16.heap.size, 0, none⟩) 1 1 [y] rfl (fun _ => ⟨_, _, rfl⟩) (Nat.le_refl _) (rowK_box HB17E.out HN17E.out HY0.out (Ext.trans HXA.out HX17.out) (fun k hk => by have := (HO17.out.lt k hk).1; omega)) (by have := HKB.out; have := HTK.out; unfold maxLen; simp; try omega) (by have := HKB.out; have := HTK.out; simp; try omega) (by have := HX17.out.size; simp at this; omega) ?_
                        intro v18 V18 hown18 hg18 hbk18
                        have HX18 := Lib.hid (HO17.out.below HX17.out (by simp) hg18)
                        have HO18 : Hid (LMg.Own V18 (w.heap.size + 1) 26 v18 (l.take k ++ [x] ++ [y])) := Lib.hid (hown18)
                        have HB18C := Lib.hid (heap_grown HB17C.out hg18 HN16C.out)
                        have HN18C := Lib.hid (ne_append HB17C.out HN16C.out hbk18)
                        have HB18E := Lib.hid (heap_grown HB17E.out hg18 HN17E.out)
                        have HN18E := Lib.hid (ne_append HB17E.out HN17E.out hbk18)
                        obtain ⟨pz, nz, cz, rfl⟩ := own_form HO18.out
                        clear hown18 hg18 hbk18
                        refine hK.out _ _ (HSA.out _ HX18.out) (fun _ => ?_)
                        clear hK K
                        try simp only [Act.put, List.setIfInBounds_toArray, List.set_cons_zero, List.set_cons_succ]
                        refine wpAnyH_take (i := 18) (oi := ⟨some 7, _, _, _, _, _⟩) (v := .slice pz nz cz) rfl (by kernel_rfl) (by kernel_rfl) (by kernel_rfl) (fun _ _ _ h => h) (Or.inl ⟨by rfl, ?_⟩) (HSA.out _ HX18.out) ?_
                        · rintro w' ⟨s1, s2, s3, s4, s5, t1, t2, t3, t4, t5⟩
                          go_simp
                        try simp only [Act.put, List.setIfInBounds_toArray, List.set_cons_zero, List.set_cons_succ]
                        refine wpAnyH_done (by kernel_rfl) ?_ _
                        go_wp2
                        go_ret
                        exact ⟨⟨_, rfl, by rw [HS.out]; exact HO18.out.sl⟩, Ext.trans HXA.out HX18.out⟩
                  · go_simp
                    have HX19' : Hid (Ext V15 (V15.alloc (.cells #[.int .i64 y.a, .int .i64 y.b, .int .i64 y.k, .slice p2 n2 c2, .slice q2 m2 d2] 26))) := Lib.hid (Ext.alloc _ _)
                    have HX19 : Hid (Ext (w.alloc (.cells #[.int .i64 x.a, .int .i64 x.b, .int .i64 x.k, .slice p1 n1 c1, .slice q1 m1 d1] 26)) (V15.alloc (.cells #[.int .i64 y.a, .int .i64 y.b, .int .i64 y.k, .slice p2 n2 c2, .slice q2 m2 d2] 26))) := Lib.hid (Ext.trans HX15.out HX19'.out)
                    have HB19E := Lib.hid (heap_alloc_new V15 (.cells #[.int .i64 y.a, .int .i64 y.b, .int .i64 y.k, .slice p2 n2 c2, .slice q2 m2 d2] 26))
                    have HB19C := Lib.hid (heap_ext HB15C.out HX19'.out)
                    have HO19 := Lib.hid (HO15.out.ext HX19'.out)
                    have HN19E : Hid (v15.ownBlock ≠ some V15.heap.size) := Lib.hid (fun e => by have := (HO15.out.lt _ e).2; omega)
                    refine hK.out _ _ (HSA.out _ HX19.out) (fun _ => ?_)
                    clear hK K
                    try simp only [Act.put, List.setIfInBounds_toArray, List.set_cons_zero, List.set_cons_succ]
                    generalize V15.alloc (.cells #[.int .i64 y.a, .int .i64 y.b, .int .i64 y.k, .slice p2 n2 c2, .slice q2 m2 d2] 26) = V19 at HX19' HX19 HB19C HB19E HO19 ⊢
                    refine wpAnyH_ready (rs := [9]) (by kernel_rfl) (by simp) ?_
                    refine AllReadyH.cons (o := ⟨some 63, .call { callee := .builtin .append, args := #[.tmp 60, .tmp 62], argTypes := #[22, 22] }, _, _, _, _⟩) rfl (fun K hK => ?_) AllReadyH.nil
                    · refine Lay.step_append2 (E := LMg) rfl (.tmp 60) (.tmp 62) 22 rfl (w.heap.size + 1) 26 i0 (.agg #[.int .i64 0, .int .i64 0, .int .i64 0, .slice none 0 0, .slice none 0 0]) 72 Try.underlying22 hi0 hzi0 hzi1 hzi2 rfl v15 (l.take k) rfl HO19.out (some ⟨V1.heap.size, 0, none⟩) 1 1 [x] rfl (fun _ => ⟨_, _, rfl⟩) (Nat.le_refl _) (rowK_box HB19C.out HN15C.out HX0.out (Ext.trans HXA.out HX19.out) (fun k hk => by have := (HO19.out.lt k hk).1; omega)) (by have := HKB.out; have := HTK.out; unfold maxLen; simp; try omega) (by have := HKB.out; have := HTK.out; simp; try omega) (by have := HX19.out.size; simp at this; omega) ?_
                      intro v20 V20 hown20 hg20 hbk20
                      have HX20 := Lib.hid (HO19.out.below HX19.out (by simp) hg20)
                      have HO20 : Hid (LMg.Own V20 (w.heap.size + 1) 26 v20 (l.take k ++ [x])) := Lib.hid (hown20)
                      have HB20C := Lib.hid (heap_grown HB19C.out hg20 HN15C.out)
                      have HN20C := Lib.hid (ne_append HB19C.out HN15C.out hbk20)
                      have HB20E := Lib.hid (heap_grown HB19E.out hg20 HN19E.out)
                      have HN20E := Lib.hid (ne_append HB19E.out HN19E.out hbk20)
                      clear hown20 hg20 hbk20
                      refine hK.out _ _ (HSA.out _ HX20.out) (fun _ => ?_)
                      clear hK K
                      try simp only [Act.put, List.setIfInBounds_toArray, List.set_cons_zero, List.set_cons_succ]
                      refine wpAnyH_ready (rs := [17]) (by kernel_rfl) (by simp) ?_
                      refine AllReadyH.cons (o := ⟨some 71, .call { callee := .builtin .append, args := #[.tmp 63, .tmp 70], argTypes := #[22, 22] }, _, _, _, _⟩) rfl (fun K hK => ?_) AllReadyH.nil
                      · refine Lay.step_append2 (E := LMg) rfl (.tmp 63) (.tmp 70) 22 rfl (w.heap.size + 1) 26 i0 (.agg #[.int .i64 0, .int .i64 0, .int .i64 0, .slice none 0 0, .slice none 0 0]) 72 Try.underlying22 hi0 hzi0 hzi1 hzi2 rfl v20 (l.take k ++ [x]) rfl HO20.out (some ⟨V15.heap.size, 0, none⟩) 1 1 [y] rfl (fun _ => ⟨_, _, rfl⟩) (Nat.le_refl _) (rowK_box HB20E.out HN20E.out HY0.out (Ext.trans HXA.out HX20.out) (fun k hk => by have := (HO20.out.lt k hk).1; omega)) (by have := HKB.out; have := HTK.out; unfold maxLen; simp; try omega) (by have := HKB.out; have := HTK.out; simp; try omega) (by have := HX20.out.size; simp at this; omega) ?_
                        intro v21 V21 hown21 hg21 hbk21
                        have HX21 := Lib.hid (HO20.out.below HX20.out (by simp) hg21)
                        have HO21 : Hid (LMg.Own V21 (w.heap.size + 1) 26 v21 (l.take k ++ [x] ++ [y])) := Lib.hid (hown21)
                        have HB21C := Lib.hid (heap_grown HB20C.out hg21 HN20C.out)
                        have HN21C := Lib.hid (ne_append HB20C.out HN20C.out hbk21)
                        have HB21E := Lib.hid (heap_grown HB20E.out hg21 HN20E.out)
                        have HN21E := Lib.hid (ne_append HB20E.out HN20E.out hbk21)
                        obtain ⟨pz, nz, cz, rfl⟩ := own_form HO21.out
                        clear hown21 hg21 hbk21
                        refine hK.out _ _ (HSA.out _ HX21.out) (fun _ => ?_)
                        clear hK K
                        try simp only [Act.put, List.setIfInBounds_toArray, List.set_cons_zero, List.set_cons_succ]
                        refine wpAnyH_take (i := 18) (oi := ⟨some 7, _, _, _, _, _⟩) (v := .slice pz nz cz) rfl (by kernel_rfl) (by kernel_rfl) (by kernel_rfl) (fun _ _ _ h => h) (Or.inl ⟨by rfl, ?_⟩) (HSA.out _ HX21.out) ?_
                        · rintro w' ⟨s1, s2, s3, s4, s5, t1, t2, t3, t4, t5⟩
                          go_simp
                        try simp only [Act.put, List.setIfInBounds_toArray, List.set_cons_zero, List.set_cons_succ]
                        refine wpAnyH_done (by kernel_rfl) ?_ _
                        go_wp2
                        go_ret
                        exact ⟨⟨_, rfl, by rw [HS.out]; exact HO21.out.sl⟩, Ext.trans HXA.out HX21.out⟩
                · go_simp
                  have HX22' : Hid (Ext V14 (V14.alloc (.cells #[.int .i64 y.a, .int .i64 y.b, .int .i64 y.k, .slice p2 n2 c2, .slice q2 m2 d2] 26))) := Lib.hid (Ext.alloc _ _)
                  have HX22 : Hid (Ext (w.alloc (.cells #[.int .i64 x.a, .int .i64 x.b, .int .i64 x.k, .slice p1 n1 c1, .slice q1 m1 d1] 26)) (V14.alloc (.cells #[.int .i64 y.a, .int .i64 y.b, .int .i64 y.k, .slice p2 n2 c2, .slice q2 m2 d2] 26))) := Lib.hid (Ext.trans HX14.out HX22'.out)
                  have HB22E := Lib.hid (heap_alloc_new V14 (.cells #[.int .i64 y.a, .int .i64 y.b, .int .i64 y.k, .slice p2 n2 c2, .slice q2 m2 d2] 26))
                  have HB22C := Lib.hid (heap_ext HB14C.out HX22'.out)
                  have HO22 := Lib.hid (HO14.out.ext HX22'.out)
                  have HN22E : Hid ((Value.slice (some ⟨Wd.heap.size, 0, none⟩) 0 0).ownBlock ≠ some V14.heap.size) := Lib.hid (fun e => by have := (HO14.out.lt _ e).2; omega)
                  refine hK.out _ _ (HSA.out _ HX22.out) (fun _ => ?_)
                  clear hK K
                  try simp only [Act.put, List.setIfInBounds_toArray, List.set_cons_zero, List.set_cons_succ]
                  generalize V14.alloc (.cells #[.int .i64 y.a, .int .i64 y.b, .int .i64 y.k, .slice p2 n2 c2, .slice q2 m2 d2] 26) = V22 at HX22' HX22 HB22C HB22E HO22 ⊢
                  refine wpAnyH_ready (rs := [6]) (by kernel_rfl) (by simp) ?_
                  refine AllReadyH.cons (o := ⟨some 60, .call { callee := .builtin .append, args := #[.tmp 54, .tmp 59], argTypes := #[22, 22] }, _, _, _, _⟩) rfl (fun K hK => ?_) AllReadyH.nil
                  · refine Lay.step_append2 (E := LMg) rfl (.tmp 54) (.tmp 59) 22 rfl (w.heap.size + 1) 26 i0 (.agg #[.int .i64 0, .int .i64 0, .int .i64 0, .slice none 0 0, .slice none 0 0]) 72 Try.underlying22 hi0 hzi0 hzi1 hzi2 rfl (Value.slice (some ⟨Wd.heap.size, 0, none⟩) 0 0) ([]) rfl HO22.out (some ⟨b, off, none⟩) k c (l.take k) rfl (fun _ => ⟨_, _, rfl⟩) HKC.out (HPT.out.keep (Ext.trans HXA.out HX22.out) (fun k hk => by have := (HO22.out.lt k hk).1; omega)) (by have := HKB.out; have := HTK.out; unfold maxLen; simp; try omega) (by have := HKB.out; have := HTK.out; simp; try omega) (by have := HX22.out.size; simp at this; omega) ?_
                    intro v23 V23 hown23 hg23 hbk23
                    have HX23 := Lib.hid (HO22.out.below HX22.out (by simp) hg23)
                    have HO23 : Hid (LMg.Own V23 (w.heap.size + 1) 26 v23 (l.take k)) := Lib.hid (by simpa using hown23)
                    have HB23C := Lib.hid (heap_grown HB22C.out hg23 HN14C.out)
                    have HN23C := Lib.hid (ne_append HB22C.out HN14C.out hbk23)
                    have HB23E := Lib.hid (heap_grown HB22E.out hg23 HN22E.out)
                    have HN23E := Lib.hid (ne_append HB22E.out HN22E.out hbk23)
                    clear hown23 hg23 hbk23
                    refine hK.out _ _ (HSA.out _ HX23.out) (fun _ => ?_)
                    clear hK K
                    try simp only [Act.put, List.setIfInBounds_toArray, List.set_cons_zero, List.set_cons_succ]
                    refine wpAnyH_ready (rs := [9]) (by kernel_rfl) (by simp) ?_
                    refine AllReadyH.cons (o := ⟨some 63, .call { callee := .builtin .append, args := #[.tmp 60, .tmp 62], argTypes := #[22, 22] }, _, _, _, _⟩) rfl (fun K hK => ?_) AllReadyH.nil
                    · refine Lay.step_append2 (E := LMg) rfl (.tmp 60) (.tmp 62) 22 rfl (w.heap.size + 1) 26 i0 (.agg #[.int .i64 0, .int .i64 0, .int .i64 0, .slice none 0 0, .slice none 0 0]) 72 Try.underlying22 hi0 hzi0 hzi1 hzi2 rfl v23 (l.take k) rfl HO23.out (some ⟨V1.heap.size, 0, none⟩) 1 1 [x] rfl (fun _ => ⟨_, _, rfl⟩) (Nat.le_refl _) (rowK_box HB23C.out HN23C.out HX0.out (Ext.trans HXA.out HX23.out) (fun k hk => by have := (HO23.out.lt k hk).1; omega)) (by have := HKB.out; have := HTK.out; unfold maxLen; simp; try omega) (by have := HKB.out; have := HTK.out; simp; try omega) (by have := HX23.out.size; simp at this; omega) ?_
                      intro v24 V24 hown24 hg24 hbk24
                      have HX24 := Lib.hid (HO23.out.below HX23.out (by simp) hg24)
                      have HO24 : Hid (LMg.Own V24 (w.heap.size + 1) 26 v24 (l.take k ++ [x])) := Lib.hid (hown24)
                      have HB24C := Lib.hid (heap_grown HB23C.out hg24 HN23C.out)
                      have HN24C := Lib.hid (ne_append HB23C.out HN23C.out hbk24)
                      have HB24E := Lib.hid (heap_grown HB23E.out hg24 HN23E.out)
                      have HN24E := Lib.hid (ne_append HB23E.out HN23E.out hbk24)
                      clear hown24 hg24 hbk24
                      refine hK.out _ _ (HSA.out _ HX24.out) (fun _ => ?_)
                      clear hK K
                      try simp only [Act.put, List.setIfInBounds_toArray, List.set_cons_zero, List.set_cons_succ]
                      refine wpAnyH_ready (rs := [17]) (by kernel_rfl) (by simp) ?_
                      refine AllReadyH.cons (o := ⟨some 71, .call { callee := .builtin .append, args := #[.tmp 63, .tmp 70], argTypes := #[22, 22] }, _, _, _, _⟩) rfl (fun K hK => ?_) AllReadyH.nil
                      · refine Lay.step_append2 (E := LMg) rfl (.tmp 63) (.tmp 70) 22 rfl (w.heap.size + 1) 26 i0 (.agg #[.int .i64 0, .int .i64 0, .int .i64 0, .slice none 0 0, .slice none 0 0]) 72 Try.underlying22 hi0 hzi0 hzi1 hzi2 rfl v24 (l.take k ++ [x]) rfl HO24.out (some ⟨V14.heap.size, 0, none⟩) 1 1 [y] rfl (fun _ => ⟨_, _, rfl⟩) (Nat.le_refl _) (rowK_box HB24E.out HN24E.out HY0.out (Ext.trans HXA.out HX24.out) (fun k hk => by have := (HO24.out.lt k hk).1; omega)) (by have := HKB.out; have := HTK.out; unfold maxLen; simp; try omega) (by have := HKB.out; have := HTK.out; simp; try omega) (by have := HX24.out.size; simp at this; omega) ?_
                        intro v25 V25 hown25 hg25 hbk25
                        have HX25 := Lib.hid (HO24.out.below HX24.out (by simp) hg25)
                        have HO25 : Hid (LMg.Own V25 (w.heap.size + 1) 26 v25 (l.take k ++ [x] ++ [y])) := Lib.hid (hown25)
                        have HB25C := Lib.hid (heap_grown HB24C.out hg25 HN24C.out)
                        have HN25C := Lib.hid (ne_append HB24C.out HN24C.out hbk25)
                        have HB25E := Lib.hid (heap_grown HB24E.out hg25 HN24E.out)
                        have HN25E := Lib.hid (ne_append HB24E.out HN24E.out hbk25)
                        obtain ⟨pz, nz, cz, rfl⟩ := own_form HO25.out
                        clear hown25 hg25 hbk25
                        refine hK.out _ _ (HSA.out _ HX25.out) (fun _ => ?_)
                        clear hK K
                        try simp only [Act.put, List.setIfInBounds_toArray, List.set_cons_zero, List.set_cons_succ]
                        refine wpAnyH_take (i := 18) (oi := ⟨some 7, _, _, _, _, _⟩) (v := .slice pz nz cz) rfl (by kernel_rfl) (by kernel_rfl) (by kernel_rfl) (fun _ _ _ h => h) (Or.inl ⟨by rfl, ?_⟩) (HSA.out _ HX25.out) ?_
                        · rintro w' ⟨s1, s2, s3, s4, s5, t1, t2, t3, t4, t5⟩
                          go_simp
                        try simp only [Act.put, List.setIfInBounds_toArray, List.set_cons_zero, List.set_cons_succ]
                        refine wpAnyH_done (by kernel_rfl) ?_ _
                        go_wp2
                        go_ret
                        exact ⟨⟨_, rfl, by rw [HS.out]; exact HO25.out.sl⟩, Ext.trans HXA.out HX25.out⟩
              · go_simp
                have HX26' : Hid (Ext V1 (V1.alloc (.cells #[.int .i64 y.a, .int .i64 y.b, .int .i64 y.k, .slice p2 n2 c2, .slice q2 m2 d2] 26))) := Lib.hid (Ext.alloc _ _)
                have HX26 : Hid (Ext (w.alloc (.cells #[.int .i64 x.a, .int .i64 x.b, .int .i64 x.k, .slice p1 n1 c1, .slice q1 m1 d1] 26)) (V1.alloc (.cells #[.int .i64 y.a, .int .i64 y.b, .int .i64 y.k, .slice p2 n2 c2, .slice q2 m2 d2] 26))) := Lib.hid (Ext.trans HX1.out HX26'.out)
                have HB26E := Lib.hid (heap_alloc_new V1 (.cells #[.int .i64 y.a, .int .i64 y.b, .int .i64 y.k, .slice p2 n2 c2, .slice q2 m2 d2] 26))
                have HO26 := Lib.hid (HO1.out.ext HX26'.out)
                have HN26E : Hid ((Value.slice (some ⟨Wd.heap.size, 0, none⟩) 0 0).ownBlock ≠ some V1.heap.size) := Lib.hid (fun e => by have := (HO1.out.lt _ e).2; omega)
                refine hK.out _ _ (HSA.out _ HX26.out) (fun _ => ?_)
                clear hK K
                try simp only [Act.put, List.setIfInBounds_toArray, List.set_cons_zero, List.set_cons_succ]
                generalize V1.alloc (.cells #[.int .i64 y.a, .int .i64 y.b, .int .i64 y.k, .slice p2 n2 c2, .slice q2 m2 d2] 26) = V26 at HX26' HX26 HB26E HO26 ⊢
                refine wpAnyH_ready (rs := [6, 8]) (by kernel_rfl) (by simp) ?_
                refine AllReadyH.cons (o := ⟨some 60, .call { callee := .builtin .append, args := #[.tmp 54, .tmp 59], argTypes := #[22, 22] }, _, _, _, _⟩) rfl (fun K hK => ?_) (AllReadyH.cons (o := ⟨some 62, .buildSlice 22 1 #[(0, .tmp 61)], _, _, _, _⟩) rfl (fun K hK => ?_) AllReadyH.nil)
                · refine Lay.step_append2 (E := LMg) rfl (.tmp 54) (.tmp 59) 22 rfl (w.heap.size + 1) 26 i0 (.agg #[.int .i64 0, .int .i64 0, .int .i64 0, .slice none 0 0, .slice none 0 0]) 72 Try.underlying22 hi0 hzi0 hzi1 hzi2 rfl (Value.slice (some ⟨Wd.heap.size, 0, none⟩) 0 0) ([]) rfl HO26.out (some ⟨b, off, none⟩) k c (l.take k) rfl (fun _ => ⟨_, _, rfl⟩) HKC.out (HPT.out.keep (Ext.trans HXA.out HX26.out) (fun k hk => by have := (HO26.out.lt k hk).1; omega)) (by have := HKB.out; have := HTK.out; unfold maxLen; simp; try omega) (by have := HKB.out; have := HTK.out; simp; try omega) (by have := HX26.out.size; simp at this; omega) ?_
                  intro v27 V27 hown27 hg27 hbk27
                  have HX27 := Lib.hid (HO26.out.below HX26.out (by simp) hg27)
                  have HO27 : Hid (LMg.Own V27 (w.heap.size + 1) 26 v27 (l.take k)) := Lib.hid (by simpa using hown27)
                  have HB27E := Lib.hid (heap_grown HB26E.out hg27 HN26E.out)
                  have HN27E := Lib.hid (ne_append HB26E.out HN26E.out hbk27)
                  clear hown27 hg27 hbk27
                  refine hK.out _ _ (HSA.out _ HX27.out) (fun _ => ?_)
                  clear hK K
                  try simp only [Act.put, List.setIfInBounds_toArray, List.set_cons_zero, List.set_cons_succ]
                  refine wpAnyH_ready (rs := [8]) (by kernel_rfl) (by simp) ?_
                  refine AllReadyH.cons (o := ⟨some 62, .buildSlice 22 1 #[(0, .tmp 61)], _, _, _, _⟩) rfl (fun K hK => ?_) AllReadyH.nil
                  · go_simp
                    have HX28' : Hid (Ext V27 (V27.alloc (.cells #[.int .i64 x.a, .int .i64 x.b, .int .i64 x.k, .slice p1 n1 c1, .slice q1 m1 d1] 26))) := Lib.hid (Ext.alloc _ _)
                    have HX28 : Hid (Ext (w.alloc (.cells #[.int .i64 x.a, .int .i64 x.b, .int .i64 x.k, .slice p1 n1 c1, .slice q1 m1 d1] 26)) (V27.alloc (.cells #[.int .i64 x.a, .int .i64 x.b, .int .i64 x.k, .slice p1 n1 c1, .slice q1 m1 d1] 26))) := Lib.hid (Ext.trans HX27.out HX28'.out)
                    have HB28C := Lib.hid (heap_alloc_new V27 (.cells #[.int .i64 x.a, .int .i64 x.b, .int .i64 x.k, .slice p1 n1 c1, .slice q1 m1 d1] 26))
                    have HB28E := Lib.hid (heap_ext HB27E.out HX28'.out)
                    have HO28 := Lib.hid (HO27.out.ext HX28'.out)
                    have HN28C : Hid (v27.ownBlock ≠ some V27.heap.size) := Lib.hid (fun e => by have := (HO27.out.lt _ e).2; omega)
                    refine hK.out _ _ (HSA.out _ HX28.out) (fun _ => ?_)
                    clear hK K
                    try simp only [Act.put, List.setIfInBounds_toArray, List.set_cons_zero, List.set_cons_succ]
                    generalize V27.alloc (.cells #[.int .i64 x.a, .int .i64 x.b, .int .i64 x.k, .slice p1 n1 c1, .slice q1 m1 d1] 26) = V28 at HX28' HX28 HB28E HB28C HO28 ⊢
                    refine wpAnyH_ready (rs := [9]) (by kernel_rfl) (by simp) ?_
                    refine AllReadyH.cons (o := ⟨some 63, .call { callee := .builtin .append, args := #[.tmp 60, .tmp 62], argTypes := #[22, 22] }, _, _, _, _⟩) rfl (fun K hK => ?_) AllReadyH.nil
                    · refine Lay.step_append2 (E := LMg) rfl (.tmp 60) (.tmp 62) 22 rfl (w.heap.size + 1) 26 i0 (.agg #[.int .i64 0, .int .i64 0, .int .i64 0, .slice none 0 0, .slice none 0 0]) 72 Try.underlying22 hi0 hzi0 hzi1 hzi2 rfl v27 (l.take k) rfl HO28.out (some ⟨V27.heap.size, 0, none⟩) 1 1 [x] rfl (fun _ => ⟨_, _, rfl⟩) (Nat.le_refl _) (rowK_box HB28C.out HN28C.out HX0.out (Ext.trans HXA.out HX28.out) (fun k hk => by have := (HO28.out.lt k hk).1; omega)) (by have := HKB.out; have := HTK.out; unfold maxLen; simp; try omega) (by have := HKB.out; have := HTK.out; simp; try omega) (by have := HX28.out.size; simp at this; omega) ?_
                      intro v29 V29 hown29 hg29 hbk29
                      have HX29 := Lib.hid (HO28.out.below HX28.out (by simp) hg29)
                      have HO29 : Hid (LMg.Own V29 (w.heap.size + 1) 26 v29 (l.take k ++ [x])) := Lib.hid (hown29)
                      have HB29E := Lib.hid (heap_grown HB28E.out hg29 HN27E.out)
                      have HN29E := Lib.hid (ne_append HB28E.out HN27E.out hbk29)
                      have HB29C := Lib.hid (heap_grown HB28C.out hg29 HN28C.out)
                      have HN29C := Lib.hid (ne_append HB28C.out HN28C.out hbk29)
                      clear hown29 hg29 hbk29
                      refine hK.out _ _ (HSA.out _ HX29.out) (fun _ => ?_)
                      clear hK K
                      try simp only [Act.put, List.setIfInBounds_toArray, List.set_cons_zero, List.set_cons_succ]
                      refine wpAnyH_ready (rs := [17]) (by kernel_rfl) (by simp) ?_
                      refine AllReadyH.cons (o := ⟨some 71, .call { callee := .builtin .append, args := #[.tmp 63, .tmp 70], argTypes := #[22, 22] }, _, _, _, _⟩) rfl (fun K hK => ?_) AllReadyH.nil
                      · refine Lay.step_append2 (E := LMg) rfl (.tmp 63) (.tmp 70) 22 rfl (w.heap.size + 1) 26 i0 (.agg #[.int .i64 0, .int .i64 0, .int .i64 0, .slice none 0 0, .slice none 0 0]) 72 Try.underlying22 hi0 hzi0 hzi1 hzi2 rfl v29 (l.take k ++ [x]) rfl HO29.out (some ⟨V1.heap.size, 0, none⟩) 1 1 [y] rfl (fun _ => ⟨_, _, rfl⟩) (Nat.le_refl _) (rowK_box HB29E.out HN29E.out HY0.out (Ext.trans HXA.out HX29.out) (fun k hk => by have := (HO29.out.lt k hk).1; omega)) (by have := HKB.out; have := HTK.out; unfold maxLen; simp; try omega) (by have := HKB.out; have := HTK.out; simp; try omega) (by have := HX29.out.size; simp at this; omega) ?_
                        intro v30 V30 hown30 hg30 hbk30
                        have HX30 := Lib.hid (HO29.out.below HX29.out (by simp) hg30)
                        have HO30 : Hid (LMg.Own V30 (w.heap.size + 1) 26 v30 (l.take k ++ [x] ++ [y])) := Lib.hid (hown30)
                        have HB30E := Lib.hid (heap_grown HB29E.out hg30 HN29E.out)
                        have HN30E := Lib.hid (ne_append HB29E.out HN29E.out hbk30)
                        have HB30C := Lib.hid (heap_grown HB29C.out hg30 HN29C.out)
                        have HN30C := Lib.hid (ne_append HB29C.out HN29C.out hbk30)
                        obtain ⟨pz, nz, cz, rfl⟩ := own_form HO30.out
                        clear hown30 hg30 hbk30
                        refine hK.out _ _ (HSA.out _ HX30.out) (fun _ => ?_)
                        clear hK K
                        try simp only [Act.put, List.setIfInBounds_toArray, List.set_cons_zero, List.set_cons_succ]
                        refine wpAnyH_take (i := 18) (oi := ⟨some 7, _, _, _, _, _⟩) (v := .slice pz nz cz) rfl (by kernel_rfl) (by kernel_rfl) (by kernel_rfl) (fun _ _ _ h => h) (Or.inl ⟨by rfl, ?_⟩) (HSA.out _ HX30.out) ?_
                        · rintro w' ⟨s1, s2, s3, s4, s5, t1, t2, t3, t4, t5⟩
                          go_simp
                        try simp only [Act.put, List.setIfInBounds_toArray, List.set_cons_zero, List.set_cons_succ]
                        refine wpAnyH_done (by kernel_rfl) ?_ _
                        go_wp2
                        go_ret
                        exact ⟨⟨_, rfl, by rw [HS.out]; exact HO30.out.sl⟩, Ext.trans HXA.out HX30.out⟩
                · go_simp
                  have HX31' : Hid (Ext V26 (V26.alloc (.cells #[.int .i64 x.a, .int .i64 x.b, .int .i64 x.k, .slice p1 n1 c1, .slice q1 m1 d1] 26))) := Lib.hid (Ext.alloc _ _)
                  have HX31 : Hid (Ext (w.alloc (.cells #[.int .i64 x.a, .int .i64 x.b, .int .i64 x.k, .slice p1 n1 c1, .slice q1 m1 d1] 26)) (V26.alloc (.cells #[.int .i64 x.a, .int .i64 x.b, .int .i64 x.k, .slice p1 n1 c1, .slice q1 m1 d1] 26))) := Lib.hid (Ext.trans HX26.out HX31'.out)
                  have HB31C := Lib.hid (heap_alloc_new V26 (.cells #[.int .i64 x.a, .int .i64 x.b, .int .i64 x.k, .slice p1 n1 c1, .slice q1 m1 d1] 26))
                  have HB31E := Lib.hid (heap_ext HB26E.out HX31'.out)
                  have HO31 := Lib.hid (HO26.out.ext HX31'.out)
                  have HN31C : Hid ((Value.slice (some ⟨Wd.heap.size, 0, none⟩) 0 0).ownBlock ≠ some V26.heap.size) := Lib.hid (fun e => by have := (HO26.out.lt _ e).2; omega)
                  refine hK.out _ _ (HSA.out _ HX31.out) (fun _ => ?_)
                  clear hK K
                  try simp only [Act.put, List.setIfInBounds_toArray, List.set_cons_zero, List.set_cons_succ]
                  generalize V26.alloc (.cells #[.int .i64 x.a, .int .i64 x.b, .int .i64 x.k, .slice p1 n1 c1, .slice q1 m1 d1] 26) = V31 at HX31' HX31 HB31E HB31C HO31 ⊢
                  refine wpAnyH_ready (rs := [6]) (by kernel_rfl) (by simp) ?_
                  refine AllReadyH.cons (o := ⟨some 60, .call { callee := .builtin .append, args := #[.tmp 54, .tmp 59], argTypes := #[22, 22] }, _, _, _, _⟩) rfl (fun K hK => ?_) AllReadyH.nil
                  · refine Lay.step_append2 (E := LMg) rfl (.tmp 54) (.tmp 59) 22 rfl (w.heap.size + 1) 26 i0 (.agg #[.int .i64 0, .int .i64 0, .int .i64 0, .slice none 0 0, .slice none 0 0]) 72 Try.underlying22 hi0 hzi0 hzi1 hzi2 rfl (Value.slice (some ⟨Wd.heap.size, 0, none⟩) 0 0) ([]) rfl HO31.out (some ⟨b, off, none⟩) k c (l.take k) rfl (fun _ => ⟨_, _, rfl⟩) HKC.out (HPT.out.keep (Ext.trans HXA.out HX31.out) (fun k hk => by have := (HO31.out.lt k hk).1; omega)) (by have := HKB.out; have := HTK.out; unfold maxLen; simp; try omega) (by have := HKB.out; have := HTK.out; simp; try omega) (by have := HX31.out.size; simp at this; omega) ?_
                    intro v32 V32 hown32 hg32 hbk32
                    have HX32 := Lib.hid (HO31.out.below HX31.out (by simp) hg32)
                    have HO32 : Hid (LMg.Own V32 (w.heap.size + 1) 26 v32 (l.take k)) := Lib.hid (by simpa using hown32)
                    have HB32E := Lib.hid (heap_grown HB31E.out hg32 HN26E.out)
                    have HN32E := Lib.hid (ne_append HB31E.out HN26E.out hbk32)
                    have HB32C := Lib.hid (heap_grown HB31C.out hg32 HN31C.out)
                    have HN32C := Lib.hid (ne_append HB31C.out HN31C.out hbk32)
                    clear hown32 hg32 hbk32
                    refine hK.out _ _ (HSA.out _ HX32.out) (fun _ => ?_)
                    clear hK K
                    try simp only [Act.put, List.setIfInBounds_toArray, List.set_cons_zero, List.set_cons_succ]
                    refine wpAnyH_ready (rs := [9]) (by kernel_rfl) (by simp) ?_
                    refine AllReadyH.cons (o := ⟨some 63, .call { callee := .builtin .append, args := #[.tmp 60, .tmp 62], argTypes := #[22, 22] }, _, _, _, _⟩) rfl (fun K hK => ?_) AllReadyH.nil
                    · refine Lay.step_append2 (E := LMg) rfl (.tmp 60) (.tmp 62) 22 rfl (w.heap.size + 1) 26 i0 (.agg #[.int .i64 0, .int .i64 0, .int .i64 0, .slice none 0 0, .slice none 0 0]) 72 Try.underlying22 hi0 hzi0 hzi1 hzi2 rfl v32 (l.take k) rfl HO32.out (some ⟨V26.heap.size, 0, none⟩) 1 1 [x] rfl (fun _ => ⟨_, _, rfl⟩) (Nat.le_refl _) (rowK_box HB32C.out HN32C.out HX0.out (Ext.trans HXA.out HX32.out) (fun k hk => by have := (HO32.out.lt k hk).1; omega)) (by have := HKB.out; have := HTK.out; unfold maxLen; simp; try omega) (by have := HKB.out; have := HTK.out; simp; try omega) (by have := HX32.out.size; simp at this; omega) ?_
                      intro v33 V33 hown33 hg33 hbk33
                      have HX33 := Lib.hid (HO32.out.below HX32.out (by simp) hg33)
                      have HO33 : Hid (LMg.Own V33 (w.heap.size + 1) 26 v33 (l.take k ++ [x])) := Lib.hid (hown33)
                      have HB33E := Lib.hid (heap_grown HB32E.out hg33 HN32E.out)
                      have HN33E := Lib.hid (ne_append HB32E.out HN32E.out hbk33)
                      have HB33C := Lib.hid (heap_grown HB32C.out hg33 HN32C.out)
                      have HN33C := Lib.hid (ne_append HB32C.out HN32C.out hbk33)
                      clear hown33 hg33 hbk33
                      refine hK.out _ _ (HSA.out _ HX33.out) (fun _ => ?_)
                      clear hK K
                      try simp only [Act.put, List.setIfInBounds_toArray, List.set_cons_zero, List.set_cons_succ]
                      refine wpAnyH_ready (rs := [17]) (by kernel_rfl) (by simp) ?_
                      refine AllReadyH.cons (o := ⟨some 71, .call { callee := .builtin .append, args := #[.tmp 63, .tmp 70], argTypes := #[22, 22] }, _, _, _, _⟩) rfl (fun K hK => ?_) AllReadyH.nil
                      · refine Lay.step_append2 (E := LMg) rfl (.tmp 63) (.tmp 70) 22 rfl (w.heap.size + 1) 26 i0 (.agg #[.int .i64 0, .int .i64 0, .int .i64 0, .slice none 0 0, .slice none 0 0]) 72 Try.underlying22 hi0 hzi0 hzi1 hzi2 rfl v33 (l.take k ++ [x]) rfl HO33.out (some ⟨V1.heap.size, 0, none⟩) 1 1 [y] rfl (fun _ => ⟨_, _, rfl⟩) (Nat.le_refl _) (rowK_box HB33E.out HN33E.out HY0.out (Ext.trans HXA.out HX33.out) (fun k hk => by have := (HO33.out.lt k hk).1; omega)) (by have := HKB.out; have := HTK.out; unfold maxLen; simp; try omega) (by have := HKB.out; have := HTK.out; simp; try omega) (by have := HX33.out.size; simp at this; omega) ?_
                        intro v34 V34 hown34 hg34 hbk34
                        have HX34 := Lib.hid (HO33.out.below HX33.out (by simp) hg34)
                        have HO34 : Hid (LMg.Own V34 (w.heap.size + 1) 26 v34 (l.take k ++ [x] ++ [y])) := Lib.hid (hown34)
                        have HB34E := Lib.hid (heap_grown HB33E.out hg34 HN33E.out)
                        have HN34E := Lib.hid (ne_append HB33E.out HN33E.out hbk34)
                        have HB34C := Lib.hid (heap_grown HB33C.out hg34 HN33C.out)
                        have HN34C := Lib.hid (ne_append HB33C.out HN33C.out hbk34)
                        obtain ⟨pz, nz, cz, rfl⟩ := own_form HO34.out
                        clear hown34 hg34 hbk34
                        refine hK.out _ _ (HSA.out _ HX34.out) (fun _ => ?_)
                        clear hK K
                        try simp only [Act.put, List.setIfInBounds_toArray, List.set_cons_zero, List.set_cons_succ]
                        refine wpAnyH_take (i := 18) (oi := ⟨some 7, _, _, _, _, _⟩) (v := .slice pz nz cz) rfl (by kernel_rfl) (by kernel_rfl) (by kernel_rfl) (fun _ _ _ h => h) (Or.inl ⟨by rfl, ?_⟩) (HSA.out _ HX34.out) ?_
                        · rintro w' ⟨s1, s2, s3, s4, s5, t1, t2, t3, t4, t5⟩
                          go_simp
                        try simp only [Act.put, List.setIfInBounds_toArray, List.set_cons_zero, List.set_cons_succ]
                        refine wpAnyH_done (by kernel_rfl) ?_ _
                        go_wp2
                        go_ret
                        exact ⟨⟨_, rfl, by rw [HS.out]; exact HO34.out.sl⟩, Ext.trans HXA.out HX34.out⟩
            · go_simp
              have HX35' : Hid (Ext Wd (Wd.alloc (.cells #[.int .i64 x.a, .int .i64 x.b, .int .i64 x.k, .slice p1 n1 c1, .slice q1 m1 d1] 26))) := Lib.hid (Ext.alloc _ _)
              have HX35 : Hid (Ext (w.alloc (.cells #[.int .i64 x.a, .int .i64 x.b, .int .i64 x.k, .slice p1 n1 c1, .slice q1 m1 d1] 26)) (Wd.alloc (.cells #[.int .i64 x.a, .int .i64 x.b, .int .i64 x.k, .slice p1 n1 c1, .slice q1 m1 d1] 26))) := Lib.hid (Ext.trans HX0D.out HX35'.out)
              have HB35C := Lib.hid (heap_alloc_new Wd (.cells #[.int .i64 x.a, .int .i64 x.b, .int .i64 x.k, .slice p1 n1 c1, .slice q1 m1 d1] 26))
              refine hK.out _ _ (HSA.out _ HX35.out) (fun _ => ?_)
              clear hK K
              try simp only [Act.put, List.setIfInBounds_toArray, List.set_cons_zero, List.set_cons_succ]
              generalize Wd.alloc (.cells #[.int .i64 x.a, .int .i64 x.b, .int .i64 x.k, .slice p1 n1 c1, .slice q1 m1 d1] 26) = V35 at HX35' HX35 HB35C ⊢
              refine wpAnyH_ready (rs := [0, 16]) (by kernel_rfl) (by simp) ?_
              refine AllReadyH.cons (o := ⟨some 54, .buildSlice 22 0 #[], _, _, _, _⟩) rfl (fun K hK => ?_) (AllReadyH.cons (o := ⟨some 70, .buildSlice 22 1 #[(0, .tmp 69)], _, _, _, _⟩) rfl (fun K hK => ?_) AllReadyH.nil)
              · go_simp
                have HX36' : Hid (Ext V35 (V35.alloc (.cells #[] 26))) := Lib.hid (Ext.alloc _ _)
                have HX36 : Hid (Ext (w.alloc (.cells #[.int .i64 x.a, .int .i64 x.b, .int .i64 x.k, .slice p1 n1 c1, .slice q1 m1 d1] 26)) (V35.alloc (.cells #[] 26))) := Lib.hid (Ext.trans HX35.out HX36'.out)
                have HO36 : Hid (LMg.Own (V35.alloc (.cells #[] 26)) (w.heap.size + 1) 26 (.slice (some ⟨V35.heap.size, 0, none⟩) 0 0) []) := Lib.hid (Lay.Own.made (E := LMg) V35 #[] 0 (w.heap.size + 1) 26 (by have := HX35.out.size; simp at this; omega) (by decide) rfl)
                have HB36C := Lib.hid (heap_ext HB35C.out HX36'.out)
                have HN36C : Hid ((Value.slice (some ⟨V35.heap.size, 0, none⟩) 0 0).ownBlock ≠ some Wd.heap.size) := Lib.hid (fun e => by have := (Array.getElem?_eq_some_iff.1 HB35C.out).1; simp only [Value.ownBlock, Option.some.injEq] at e; omega)
                refine hK.out _ _ (HSA.out _ HX36.out) (fun _ => ?_)
                clear hK K
                try simp only [Act.put, List.setIfInBounds_toArray, List.set_cons_zero, List.set_cons_succ]
                generalize V35.alloc (.cells #[] 26) = V36 at HX36' HX36 HB36C HO36 ⊢
                refine wpAnyH_ready (rs := [6, 16]) (by kernel_rfl) (by simp) ?_
                refine AllReadyH.cons (o := ⟨some 60, .call { callee := .builtin .append, args := #[.tmp 54, .tmp 59], argTypes := #[22, 22] }, _, _, _, _⟩) rfl (fun K hK => ?_) (AllReadyH.cons (o := ⟨some 70, .buildSlice 22 1 #[(0, .tmp 69)], _, _, _, _⟩) rfl (fun K hK => ?_) AllReadyH.nil)
                · refine Lay.step_append2 (E := LMg) rfl (.tmp 54) (.tmp 59) 22 rfl (w.heap.size + 1) 26 i0 (.agg #[.int .i64 0, .int .i64 0, .int .i64 0, .slice none 0 0, .slice none 0 0]) 72 Try.underlying22 hi0 hzi0 hzi1 hzi2 rfl (Value.slice (some ⟨V35.heap.size, 0, none⟩) 0 0) ([]) rfl HO36.out (some ⟨b, off, none⟩) k c (l.take k) rfl (fun _ => ⟨_, _, rfl⟩) HKC.out (HPT.out.keep (Ext.trans HXA.out HX36.out) (fun k hk => by have := (HO36.out.lt k hk).1; omega)) (by have := HKB.out; have := HTK.out; unfold maxLen; simp; try omega) (by have := HKB.out; have := HTK.out; simp; try omega) (by have := HX36.out.size; simp at this; omega) ?_
                  intro v37 V37 hown37 hg37 hbk37
                  have HX37 := Lib.hid (HO36.out.below HX36.out (by simp) hg37)
                  have HO37 : Hid (LMg.Own V37 (w.heap.size + 1) 26 v37 (l.take k)) := Lib.hid (by simpa using hown37)
                  have HB37C := Lib.hid (heap_grown HB36C.out hg37 HN36C.out)
                  have HN37C := Lib.hid (ne_append HB36C.out HN36C.out hbk37)
                  clear hown37 hg37 hbk37
                  refine hK.out _ _ (HSA.out _ HX37.out) (fun _ => ?_)
                  clear hK K
                  try simp only [Act.put, List.setIfInBounds_toArray, List.set_cons_zero, List.set_cons_succ]
                  refine wpAnyH_ready (rs := [9, 16]) (by kernel_rfl) (by simp) ?_
                  refine AllReadyH.cons (o := ⟨some 63, .call { callee := .builtin .append, args := #[.tmp 60, .tmp 62], argTypes := #[22, 22] }, _, _, _, _⟩) rfl (fun K hK => ?_) (AllReadyH.cons (o := ⟨some 70, .buildSlice 22 1 #[(0, .tmp 69)], _, _, _, _⟩) rfl (fun K hK => ?_) AllReadyH.nil)
                  · refine Lay.step_append2 (E := LMg) rfl (.tmp 60) (.tmp 62) 22 rfl (w.heap.size + 1) 26 i0 (.agg #[.int .i64 0, .int .i64 0, .int .i64 0, .slice none 0 0, .slice none 0 0]) 72 Try.underlying22 hi0 hzi0 hzi1 hzi2 rfl v37 (l.take k) rfl HO37.out (some ⟨Wd.heap.size, 0, none⟩) 1 1 [x] rfl (fun _ => ⟨_, _, rfl⟩) (Nat.le_refl _) (rowK_box HB37C.out HN37C.out HX0.out (Ext.trans HXA.out HX37.out) (fun k hk => by have := (HO37.out.lt k hk).1; omega)) (by have := HKB.out; have := HTK.out; unfold maxLen; simp; try omega) (by have := HKB.out; have := HTK.out; simp; try omega) (by have := HX37.out.size; simp at this; omega) ?_
                    intro v38 V38 hown38 hg38 hbk38
                    have HX38 := Lib.hid (HO37.out.below HX37.out (by simp) hg38)
                    have HO38 : Hid (LMg.Own V38 (w.heap.size + 1) 26 v38 (l.take k ++ [x])) := Lib.hid (hown38)
                    have HB38C := Lib.hid (heap_grown HB37C.out hg38 HN37C.out)
                    have HN38C := Lib.hid (ne_append HB37C.out HN37C.out hbk38)
                    clear hown38 hg38 hbk38
                    refine hK.out _ _ (HSA.out _ HX38.out) (fun _ => ?_)
                    clear hK K
                    try simp only [Act.put, List.setIfInBounds_toArray, List.set_cons_zero, List.set_cons_succ]
                    refine wpAnyH_ready (rs := [16]) (by kernel_rfl) (by simp) ?_
                    refine AllReadyH.cons (o := ⟨some 70, .buildSlice 22 1 #[(0, .tmp 69)], _, _, _, _⟩) rfl (fun K hK => ?_) AllReadyH.nil
                    · go_simp
                      have HX39' : Hid (Ext V38 (V38.alloc (.cells #[.int .i64 y.a, .int .i64 y.b, .int .i64 y.k, .slice p2 n2 c2, .slice q2 m2 d2] 26))) := Lib.hid (Ext.alloc _ _)
                      have HX39 : Hid (Ext (w.alloc (.cells #[.int .i64 x.a, .int .i64 x.b, .int .i64 x.k, .slice p1 n1 c1, .slice q1 m1 d1] 26)) (V38.alloc (.cells #[.int .i64 y.a, .int .i64 y.b, .int .i64 y.k, .slice p2 n2 c2, .slice q2 m2 d2] 26))) := Lib.hid (Ext.trans HX38.out HX39'.out)
                      have HB39E := Lib.hid (heap_alloc_new V38 (.cells #[.int .i64 y.a, .int .i64 y.b, .int .i64 y.k, .slice p2 n2 c2, .slice q2 m2 d2] 26))
                      have HB39C := Lib.hid (heap_ext HB38C.out HX39'.out)
                      have HO39 := Lib.hid (HO38.out.ext HX39'.out)
                      have HN39E : Hid (v38.ownBlock ≠ some V38.heap.size) := Lib.hid (fun e => by have := (HO38.out.lt _ e).2; omega)
                      refine hK.out _ _ (HSA.out _ HX39.out) (fun _ => ?_)
                      clear hK K
                      try simp only [Act.put, List.setIfInBounds_toArray, List.set_cons_zero, List.set_cons_succ]
                      generalize V38.alloc (.cells #[.int .i64 y.a, .int .i64 y.b, .int .i64 y.k, .slice p2 n2 c2, .slice q2 m2 d2] 26) = V39 at HX39' HX39 HB39C HB39E HO39 ⊢
                      refine wpAnyH_ready (rs := [17]) (by kernel_rfl) (by simp) ?_
                      refine AllReadyH.cons (o := ⟨some 71, .call { callee := .builtin .append, args := #[.tmp 63, .tmp 70], argTypes := #[22, 22] }, _, _, _, _⟩) rfl (fun K hK => ?_) AllReadyH.nil
                      · refine Lay.step_append2 (E := LMg) rfl (.tmp 63) (.tmp 70) 22 rfl (w.heap.size + 1) 26 i0 (.agg #[.int .i64 0, .int .i64 0, .int .i64 0, .slice none 0 0, .slice none 0 0]) 72 Try.underlying22 hi0 hzi0 hzi1 hzi2 rfl v38 (l.take k ++ [x]) rfl HO39.out (some ⟨V38.heap.size, 0, none⟩) 1 1 [y] rfl (fun _ => ⟨_, _, rfl⟩) (Nat.le_refl _) (rowK_box HB39E.out HN39E.out HY0.out (Ext.trans HXA.out HX39.out) (fun k hk => by have := (HO39.out.lt k hk).1; omega)) (by have := HKB.out; have := HTK.out; unfold maxLen; simp; try omega) (by have := HKB.out; have := HTK.out; simp; try omega) (by have := HX39.out.size; simp at this; omega) ?_
                        intro v40 V40 hown40 hg40 hbk40
                        have HX40 := Lib.hid (HO39.out.below HX39.out (by simp) hg40)
                        have HO40 : Hid (LMg.Own V40 (w.heap.size + 1) 26 v40 (l.take k ++ [x] ++ [y])) := Lib.hid (hown40)
                        have HB40C := Lib.hid (heap_grown HB39C.out hg40 HN38C.out)
                        have HN40C := Lib.hid (ne_append HB39C.out HN38C.out hbk40)
                        have HB40E := Lib.hid (heap_grown HB39E.out hg40 HN39E.out)
                        have HN40E := Lib.hid (ne_append HB39E.out HN39E.out hbk40)
                        obtain ⟨pz, nz, cz, rfl⟩ := own_form HO40.out
                        clear hown40 hg40 hbk40
                        refine hK.out _ _ (HSA.out _ HX40.out) (fun _ => ?_)
                        clear hK K
                        try simp only [Act.put, List.setIfInBounds_toArray, List.set_cons_zero, List.set_cons_succ]
                        refine wpAnyH_take (i := 18) (oi := ⟨some 7, _, _, _, _, _⟩) (v := .slice pz nz cz) rfl (by kernel_rfl) (by kernel_rfl) (by kernel_rfl) (fun _ _ _ h => h) (Or.inl ⟨by rfl, ?_⟩) (HSA.out _ HX40.out) ?_
                        · rintro w' ⟨s1, s2, s3, s4, s5, t1, t2, t3, t4, t5⟩
                          go_simp
                        try simp only [Act.put, List.setIfInBounds_toArray, List.set_cons_zero, List.set_cons_succ]
                        refine wpAnyH_done (by kernel_rfl) ?_ _
                        go_wp2
                        go_ret
                        exact ⟨⟨_, rfl, by rw [HS.out]; exact HO40.out.sl⟩, Ext.trans HXA.out HX40.out⟩
                  · go_simp
                    have HX41' : Hid (Ext V37 (V37.alloc (.cells #[.int .i64 y.a, .int .i64 y.b, .int .i64 y.k, .slice p2 n2 c2, .slice q2 m2 d2] 26))) := Lib.hid (Ext.alloc _ _)
                    have HX41 : Hid (Ext (w.alloc (.cells #[.int .i64 x.a, .int .i64 x.b, .int .i64 x.k, .slice p1 n1 c1, .slice q1 m1 d1] 26)) (V37.alloc (.cells #[.int .i64 y.a, .int .i64 y.b, .int .i64 y.k, .slice p2 n2 c2, .slice q2 m2 d2] 26))) := Lib.hid (Ext.trans HX37.out HX41'.out)
                    have HB41E := Lib.hid (heap_alloc_new V37 (.cells #[.int .i64 y.a, .int .i64 y.b, .int .i64 y.k, .slice p2 n2 c2, .slice q2 m2 d2] 26))
                    have HB41C := Lib.hid (heap_ext HB37C.out HX41'.out)
                    have HO41 := Lib.hid (HO37.out.ext HX41'.out)
                    have HN41E : Hid (v37.ownBlock ≠ some V37.heap.size) := Lib.hid (fun e => by have := (HO37.out.lt _ e).2; omega)
                    refine hK.out _ _ (HSA.out _ HX41.out) (fun _ => ?_)
                    clear hK K
                    try simp only [Act.put, List.setIfInBounds_toArray, List.set_cons_zero, List.set_cons_succ]
                    generalize V37.alloc (.cells #[.int .i64 y.a, .int .i64 y.b, .int .i64 y.k, .slice p2 n2 c2, .slice q2 m2 d2] 26) = V41 at HX41' HX41 HB41C HB41E HO41 ⊢
                    refine wpAnyH_ready (rs := [9]) (by kernel_rfl) (by simp) ?_
                    refine AllReadyH.cons (o := ⟨some 63, .call { callee := .builtin .append, args := #[.tmp 60, .tmp 62], argTypes := #[22, 22] }, _, _, _, _⟩) rfl (fun K hK => ?_) AllReadyH.nil
                    · refine Lay.step_append2 (E := LMg) rfl (.tmp 60) (.tmp 62) 22 rfl (w.heap.size + 1) 26 i0 (.agg #[.int .i64 0, .int .i64 0, .int .i64 0, .slice none 0 0, .slice none 0 0]) 72 Try.underlying22 hi0 hzi0 hzi1 hzi2 rfl v37 (l.take k) rfl HO41.out (some ⟨Wd.heap.size, 0, none⟩) 1 1 [x] rfl (fun _ => ⟨_, _, rfl⟩) (Nat.le_refl _) (rowK_box HB41C.out HN37C.out HX0.out (Ext.trans HXA.out HX41.out) (fun k hk => by have := (HO41.out.lt k hk).1; omega)) (by have := HKB.out; have := HTK.out; unfold maxLen; simp; try omega) (by have := HKB.out; have := HTK.out; simp; try omega) (by have := HX41.out.size; simp at this; omega) ?_
                      intro v42 V42 hown42 hg42 hbk42
                      have HX42 := Lib.hid (HO41.out.below HX41.out (by simp) hg42)
                      have HO42 : Hid (LMg.Own V42 (w.heap.size + 1) 26 v42 (l.take k ++ [x])) := Lib.hid (hown42)
                      have HB42C := Lib.hid (heap_grown HB41C.out hg42 HN37C.out)
                      have HN42C := Lib.hid (ne_append HB41C.out HN37C.out hbk42)
                      have HB42E := Lib.hid (heap_grown HB41E.out hg42 HN41E.out)
                      have HN42E := Lib.hid (ne_append HB41E.out HN41E.out hbk42)
                      clear hown42 hg42 hbk42
                      refine hK.out _ _ (HSA.out _ HX42.out) (fun _ => ?_)
                      clear hK K
                      try simp only [Act.put, List.setIfInBounds_toArray, List.set_cons_zero, List.set_cons_succ]
                      refine wpAnyH_ready (rs := [17]) (by kernel_rfl) (by simp) ?_
                      refine AllReadyH.cons (o := ⟨some 71, .call { callee := .builtin .append, args := #[.tmp 63, .tmp 70], argTypes := #[22, 22] }, _, _, _, _⟩) rfl (fun K hK => ?_) AllReadyH.nil
                      · refine Lay.step_append2 (E := LMg) rfl (.tmp 63) (.tmp 70) 22 rfl (w.heap.size + 1) 26 i0 (.agg #[.int .i64 0, .int .i64 0, .int .i64 0, .slice none 0 0, .slice none 0 0]) 72 Try.underlying22 hi0 hzi0 hzi1 hzi2 rfl v42 (l.take k ++ [x]) rfl HO42.out (some ⟨V37.heap.size, 0, none⟩) 1 1 [y] rfl (fun _ => ⟨_, _, rfl⟩) (Nat.le_refl _) (rowK_box HB42E.out HN42E.out HY0.out (Ext.trans HXA.out HX42.out) (fun k hk => by have := (HO42.out.lt k hk).1; omega)) (by have := HKB.out; have := HTK.out; unfold maxLen; simp; try omega) (by have := HKB.out; have := HTK.out; simp; try omega) (by have := HX42.out.size; simp at this; omega) ?_
                        intro v43 V43 hown43 hg43 hbk43
                        have HX43 := Lib.hid (HO42.out.below HX42.out (by simp) hg43)
                        have HO43 : Hid (LMg.Own V43 (w.heap.size + 1) 26 v43 (l.take k ++ [x] ++ [y])) := Lib.hid (hown43)
                        have HB43C := Lib.hid (heap_grown HB42C.out hg43 HN42C.out)
                        have HN43C := Lib.hid (ne_append HB42C.out HN42C.out hbk43)
                        have HB43E := Lib.hid (heap_grown HB42E.out hg43 HN42E.out)
                        have HN43E := Lib.hid (ne_append HB42E.out HN42E.out hbk43)
                        obtain ⟨pz, nz, cz, rfl⟩ := own_form HO43.out
                        clear hown43 hg43 hbk43
                        refine hK.out _ _ (HSA.out _ HX43.out) (fun _ => ?_)
                        clear hK K
                        try simp only [Act.put, List.setIfInBounds_toArray, List.set_cons_zero, List.set_cons_succ]
                        refine wpAnyH_take (i := 18) (oi := ⟨some 7, _, _, _, _, _⟩) (v := .slice pz nz cz) rfl (by kernel_rfl) (by kernel_rfl) (by kernel_rfl) (fun _ _ _ h => h) (Or.inl ⟨by rfl, ?_⟩) (HSA.out _ HX43.out) ?_
                        · rintro w' ⟨s1, s2, s3, s4, s5, t1, t2, t3, t4, t5⟩
                          go_simp
                        try simp only [Act.put, List.setIfInBounds_toArray, List.set_cons_zero, List.set_cons_succ]
                        refine wpAnyH_done (by kernel_rfl) ?_ _
                        go_wp2
                        go_ret
                        exact ⟨⟨_, rfl, by rw [HS.out]; exact HO43.out.sl⟩, Ext.trans HXA.out HX43.out⟩
                · go_simp
                  have HX44' : Hid (Ext V36 (V36.alloc (.cells #[.int .i64 y.a, .int .i64 y.b, .int .i64 y.k, .slice p2 n2 c2, .slice q2 m2 d2] 26))) := Lib.hid (Ext.alloc _ _)
                  have HX44 : Hid (Ext (w.alloc (.cells #[.int .i64 x.a, .int .i64 x.b, .int .i64 x.k, .slice p1 n1 c1, .slice q1 m1 d1] 26)) (V36.alloc (.cells #[.int .i64 y.a, .int .i64 y.b, .int .i64 y.k, .slice p2 n2 c2, .slice q2 m2 d2] 26))) := Lib.hid (Ext.trans HX36.out HX44'.out)
                  have HB44E := Lib.hid (heap_alloc_new V36 (.cells #[.int .i64 y.a, .int .i64 y.b, .int .i64 y.k, .slice p2 n2 c2, .slice q2 m2 d2] 26))
                  have HB44C := Lib.hid (heap_ext HB36C.out HX44'.out)
                  have HO44 := Lib.hid (HO36.out.ext HX44'.out)
                  have HN44E : Hid ((Value.slice (some ⟨V35.heap.size, 0, none⟩) 0 0).ownBlock ≠ some V36.heap.size) := Lib.hid (fun e => by have := (HO36.out.lt _ e).2; omega)
                  refine hK.out _ _ (HSA.out _ HX44.out) (fun _ => ?_)
                  clear hK K
                  try simp only [Act.put, List.setIfInBounds_toArray, List.set_cons_zero, List.set_cons_succ]
                  generalize V36.alloc (.cells #[.int .i64 y.a, .int .i64 y.b, .int .i64 y.k, .slice p2 n2 c2, .slice q2 m2 d2] 26) = V44 at HX44' HX44 HB44C HB44E HO44 ⊢
                  refine wpAnyH_ready (rs := [6]) (by kernel_rfl) (by simp) ?_
                  refine AllReadyH.cons (o := ⟨some 60, .call { callee := .builtin .append, args := #[.tmp 54, .tmp 59], argTypes := #[22, 22] }, _, _, _, _⟩) rfl (fun K hK => ?_) AllReadyH.nil
                  · refine Lay.step_append2 (E := LMg) rfl (.tmp 54) (.tmp 59) 22 rfl (w.heap.size + 1) 26 i0 (.agg #[.int .i64 0, .int .i64 0, .int .i64 0, .slice none 0 0, .slice none 0 0]) 72 Try.underlying22 hi0 hzi0 hzi1 hzi2 rfl (Value.slice (some ⟨V35.heap.size, 0, none⟩) 0 0) ([]) rfl HO44.out (some ⟨b, off, none⟩) k c (l.take k) rfl (fun _ => ⟨_, _, rfl⟩) HKC.out (HPT.out.keep (Ext.trans HXA.out HX44.out) (fun k hk => by have := (HO44.out.lt k hk).1; omega)) (by have := HKB.out; have := HTK.out; unfold maxLen; simp; try omega) (by have := HKB.out; have := HTK.out; simp; try omega) (by have := HX44.out.size; simp at this; omega) ?_
                    intro v45 V45 hown45 hg45 hbk45
                    have HX45 := Lib.hid (HO44.out.below HX44.out (by simp) hg45)
                    have HO45 : Hid (LMg.Own V45 (w.heap.size + 1) 26 v45 (l.take k)) := Lib.hid (by simpa using hown45)
                    have HB45C := Lib.hid (heap_grown HB44C.out hg45 HN36C.out)
                    have HN45C := Lib.hid (ne_append HB44C.out HN36C.out hbk45)
                    have HB45E := Lib.hid (heap_grown HB44E.out hg45 HN44E.out)
                    have HN45E := Lib.hid (ne_append HB44E.out HN44E.out hbk45)
                    clear hown45 hg45 hbk45
                    refine hK.out _ _ (HSA.out _ HX45.out) (fun _ => ?_)
                    clear hK K
                    try simp only [Act.put, List.setIfInBounds_toArray, List.set_cons_zero, List.set_cons_succ]
                    refine wpAnyH_ready (rs := [9]) (by kernel_rfl) (by simp) ?_
                    refine AllReadyH.cons (o := ⟨some 63, .call { callee := .builtin .append, args := #[.tmp 60, .tmp 62], argTypes := #[22, 22] }, _, _, _, _⟩) rfl (fun K hK => ?_) AllReadyH.nil
                    · refine Lay.step_append2 (E := LMg) rfl (.tmp 60) (.tmp 62) 22 rfl (w.heap.size + 1) 26 i0 (.agg #[.int .i64 0, .int .i64 0, .int .i64 0, .slice none 0 0, .slice none 0 0]) 72 Try.underlying22 hi0 hzi0 hzi1 hzi2 rfl v45 (l.take k) rfl HO45.out (some ⟨Wd.heap.size, 0, none⟩) 1 1 [x] rfl (fun _ => ⟨_, _, rfl⟩) (Nat.le_refl _) (rowK_box HB45C.out HN45C.out HX0.out (Ext.trans HXA.out HX45.out) (fun k hk => by have := (HO45.out.lt k hk).1; omega)) (by have := HKB.out; have := HTK.out; unfold maxLen; simp; try omega) (by have := HKB.out; have := HTK.out; simp; try omega) (by have := HX45.out.size; simp at this; omega) ?_
                      intro v46 V46 hown46 hg46 hbk46
                      have HX46 := Lib.hid (HO45.out.below HX45.out (by simp) hg46)
                      have HO46 : Hid (LMg.Own V46 (w.heap.size + 1) 26 v46 (l.take k ++ [x])) := Lib.hid (hown46)
                      have HB46C := Lib.hid (heap_grown HB45C.out hg46 HN45C.out)
                      have HN46C := Lib.hid (ne_append HB45C.out HN45C.out hbk46)
                      have HB46E := Lib.hid (heap_grown HB45E.out hg46 HN45E.out)
                      have HN46E := Lib.hid (ne_append HB45E.out HN45E.out hbk46)
                      clear hown46 hg46 hbk46
                      refine hK.out _ _ (HSA.out _ HX46.out) (fun _ => ?_)
                      clear hK K
                      try simp only [Act.put, List.setIfInBounds_toArray, List.set_cons_zero, List.set_cons_succ]
                      refine wpAnyH_ready (rs := [17]) (by kernel_rfl) (by simp) ?_
                      refine AllReadyH.cons (o := ⟨some 71, .call { callee := .builtin .append, args := #[.tmp 63, .tmp 70], argTypes := #[22, 22] }, _, _, _, _⟩) rfl (fun K hK => ?_) AllReadyH.nil
                      · refine Lay.step_append2 (E := LMg) rfl (.tmp 63) (.tmp 70) 22 rfl (w.heap.size + 1) 26 i0 (.agg #[.int .i64 0, .int .i64 0, .int .i64 0, .slice none 0 0, .slice none 0 0]) 72 Try.underlying22 hi0 hzi0 hzi1 hzi2 rfl v46 (l.take k ++ [x]) rfl HO46.out (some ⟨V36.heap.size, 0, none⟩) 1 1 [y] rfl (fun _ => ⟨_, _, rfl⟩) (Nat.le_refl _) (rowK_box HB46E.out HN46E.out HY0.out (Ext.trans HXA.out HX46.out) (fun k hk => by have := (HO46.out.lt k hk).1; omega)) (by have := HKB.out; have := HTK.out; unfold maxLen; simp; try omega) (by have := HKB.out; have := HTK.out; simp; try omega) (by have := HX46.out.size; simp at this; omega) ?_
                        intro v47 V47 hown47 hg47 hbk47
                        have HX47 := Lib.hid (HO46.out.below HX46.out (by simp) hg47)
                        have HO47 : Hid (LMg.Own V47 (w.heap.size + 1) 26 v47 (l.take k ++ [x] ++ [y])) := Lib.hid (hown47)
                        have HB47C := Lib.hid (heap_grown HB46C.out hg47 HN46C.out)
                        have HN47C := Lib.hid (ne_append HB46C.out HN46C.out hbk47)
                        have HB47E := Lib.hid (heap_grown HB46E.out hg47 HN46E.out)
                        have HN47E := Lib.hid (ne_append HB46E.out HN46E.out hbk47)
                        obtain ⟨pz, nz, cz, rfl⟩ := own_form HO47.out
                        clear hown47 hg47 hbk47
                        refine hK.out _ _ (HSA.out _ HX47.out) (fun _ => ?_)
                        clear hK K
                        try simp only [Act.put, List.setIfInBounds_toArray, List.set_cons_zero, List.set_cons_succ]
                        refine wpAnyH_take (i := 18) (oi := ⟨some 7, _, _, _, _, _⟩) (v := .slice pz nz cz) rfl (by kernel_rfl) (by kernel_rfl) (by kernel_rfl) (fun _ _ _ h => h) (Or.inl ⟨by rfl, ?_⟩) (HSA.out _ HX47.out) ?_
                        · rintro w' ⟨s1, s2, s3, s4, s5, t1, t2, t3, t4, t5⟩
                          go_simp
                        try simp only [Act.put, List.setIfInBounds_toArray, List.set_cons_zero, List.set_cons_succ]
                        refine wpAnyH_done (by kernel_rfl) ?_ _
                        go_wp2
                        go_ret
                        exact ⟨⟨_, rfl, by rw [HS.out]; exact HO47.out.sl⟩, Ext.trans HXA.out HX47.out⟩
              · go_simp
                have HX48' : Hid (Ext V35 (V35.alloc (.cells #[.int .i64 y.a, .int .i64 y.b, .int .i64 y.k, .slice p2 n2 c2, .slice q2 m2 d2] 26))) := Lib.hid (Ext.alloc _ _)
                have HX48 : Hid (Ext (w.alloc (.cells #[.int .i64 x.a, .int .i64 x.b, .int .i64 x.k, .slice p1 n1 c1, .slice q1 m1 d1] 26)) (V35.alloc (.cells #[.int .i64 y.a, .int .i64 y.b, .int .i64 y.k, .slice p2 n2 c2, .slice q2 m2 d2] 26))) := Lib.hid (Ext.trans HX35.out HX48'.out)
                have HB48E := Lib.hid (heap_alloc_new V35 (.cells #[.int .i64 y.a, .int .i64 y.b, .int .i64 y.k, .slice p2 n2 c2, .slice q2 m2 d2] 26))
                have HB48C := Lib.hid (heap_ext HB35C.out HX48'.out)
                refine hK.out _ _ (HSA.out _ HX48.out) (fun _ => ?_)
                clear hK K
                try simp only [Act.put, List.setIfInBounds_toArray, List.set_cons_zero, List.set_cons_succ]
                generalize V35.alloc (.cells #[.int .i64 y.a, .int .i64 y.b, .int .i64 y.k, .slice p2 n2 c2, .slice q2 m2 d2] 26) = V48 at HX48' HX48 HB48C HB48E ⊢
                refine wpAnyH_ready (rs := [0]) (by kernel_rfl) (by simp) ?_
                refine AllReadyH.cons (o := ⟨some 54, .buildSlice 22 0 #[], _, _, _, _⟩) rfl (fun K hK => ?_) AllReadyH.nil
                · go_simp
                  have HX49' : Hid (Ext V48 (V48.alloc (.cells #[] 26))) := Lib.hid (Ext.alloc _ _)
                  have HX49 : Hid (Ext (w.alloc (.cells #[.int .i64 x.a, .int .i64 x.b, .int .i64 x.k, .slice p1 n1 c1, .slice q1 m1 d1] 26)) (V48.alloc (.cells #[] 26))) := Lib.hid (Ext.trans HX48.out HX49'.out)
                  have HO49 : Hid (LMg.Own (V48.alloc (.cells #[] 26)) (w.heap.size + 1) 26 (.slice (some ⟨V48.heap.size, 0, none⟩) 0 0) []) := Lib.hid (Lay.Own.made (E := LMg) V48 #[] 0 (w.heap.size + 1) 26 (by have := HX48.out.size; simp at this; omega) (by decide) rfl)
                  have HB49C := Lib.hid (heap_ext HB48C.out HX49'.out)
                  have HN49C : Hid ((Value.slice (some ⟨V48.heap.size, 0, none⟩) 0 0).ownBlock ≠ some Wd.heap.size) := Lib.hid (fun e => by have := (Array.getElem?_eq_some_iff.1 HB48C.out).1; simp only [Value.ownBlock, Option.some.injEq] at e; omega)
                  have HB49E := Lib.hid (heap_ext HB48E.out HX49'.out)
                  have HN49E : Hid ((Value.slice (some ⟨V48.heap.size, 0, none⟩) 0 0).ownBlock ≠ some V35.heap.size) := Lib.hid (fun e => by have := (Array.getElem?_eq_some_iff.1 HB48E.out).1; simp only [Value.ownBlock, Option.some.injEq] at e; omega)
                  refine hK.out _ _ (HSA.out _ HX49.out) (fun _ => ?_)
                  clear hK K
                  try simp only [Act.put, List.setIfInBounds_toArray, List.set_cons_zero, List.set_cons_succ]
                  generalize V48.alloc (.cells #[] 26) = V49 at HX49' HX49 HB49C HB49E HO49 ⊢
                  refine wpAnyH_ready (rs := [6]) (by kernel_rfl) (by simp) ?_
                  refine AllReadyH.cons (o := ⟨some 60, .call { callee := .builtin .append, args := #[.tmp 54, .tmp 59], argTypes := #[22, 22] }, _, _, _, _⟩) rfl (fun K hK => ?_) AllReadyH.nil
                  · refine Lay.step_append2 (E := LMg) rfl (.tmp 54) (.tmp 59) 22 rfl (w.heap.size + 1) 26 i0 (.agg #[.int .i64 0, .int .i64 0, .int .i64 0, .slice none 0 0, .slice none 0 0]) 72 Try.underlying22 hi0 hzi0 hzi1 hzi2 rfl (Value.slice (some ⟨V48.heap.size, 0, none⟩) 0 0) ([]) rfl HO49.out (some ⟨b, off, none⟩) k c (l.take k) rfl (fun _ => ⟨_, _, rfl⟩) HKC.out (HPT.out.keep (Ext.trans HXA.out HX49.out) (fun k hk => by have := (HO49.out.lt k hk).1; omega)) (by have := HKB.out; have := HTK.out; unfold maxLen; simp; try omega) (by have := HKB.out; have := HTK.out; simp; try omega) (by have := HX49.out.size; simp at this; omega) ?_
                    intro v50 V50 hown50 hg50 hbk50
                    have HX50 := Lib.hid (HO49.out.below HX49.out (by simp) hg50)
                    have HO50 : Hid (LMg.Own V50 (w.heap.size + 1) 26 v50 (l.take k)) := Lib.hid (by simpa using hown50)
                    have HB50C := Lib.hid (heap_grown HB49C.out hg50 HN49C.out)
                    have HN50C := Lib.hid (ne_append HB49C.out HN49C.out hbk50)
                    have HB50E := Lib.hid (heap_grown HB49E.out hg50 HN49E.out)
                    have HN50E := Lib.hid (ne_append HB49E.out HN49E.out hbk50)
                    clear hown50 hg50 hbk50
                    refine hK.out _ _ (HSA.out _ HX50.out) (fun _ => ?_)
                    clear hK K
                    try simp only [Act.put, List.setIfInBounds_toArray, List.set_cons_zero, List.set_cons_succ]
                    refine wpAnyH_ready (rs := [9]) (by kernel_rfl) (by simp) ?_
                    refine AllReadyH.cons (o := ⟨some 63, .call { callee := .builtin .append, args := #[.tmp 60, .tmp 62], argTypes := #[22, 22] }, _, _, _, _⟩) rfl (fun K hK => ?_) AllReadyH.nil
                    · refine Lay.step_append2 (E := LMg) rfl (.tmp 60) (.tmp 62) 22 rfl (w.heap.size + 1) 26 i0 (.agg #[.int .i64 0, .int .i64 0, .int .i64 0, .slice none 0 0, .slice none 0 0]) 72 Try.underlying22 hi0 hzi0 hzi1 hzi2 rfl v50 (l.take k) rfl HO50.out (some ⟨Wd.heap.size, 0, none⟩) 1 1 [x] rfl (fun _ => ⟨_, _, rfl⟩) (Nat.le_refl _) (rowK_box HB50C.out HN50C.out HX0.out (Ext.trans HXA.out HX50.out) (fun k hk => by have := (HO50.out.lt k hk).1; omega)) (by have := HKB.out; have := HTK.out; unfold maxLen; simp; try omega) (by have := HKB.out; have := HTK.out; simp; try omega) (by have := HX50.out.size; simp at this; omega) ?_
                      intro v51 V51 hown51 hg51 hbk51
                      have HX51 := Lib.hid (HO50.out.below HX50.out (by simp) hg51)
                      have HO51 : Hid (LMg.Own V51 (w.heap.size + 1) 26 v51 (l.take k ++ [x])) := Lib.hid (hown51)
                      have HB51C := Lib.hid (heap_grown HB50C.out hg51 HN50C.out)
                      have HN51C := Lib.hid (ne_append HB50C.out HN50C.out hbk51)
                      have HB51E := Lib.hid (heap_grown HB50E.out hg51 HN50E.out)
                      have HN51E := Lib.hid (ne_append HB50E.out HN50E.out hbk51)
                      clear hown51 hg51 hbk51
                      refine hK.out _ _ (HSA.out _ HX51.out) (fun _ => ?_)
                      clear hK K
                      try simp only [Act.put, List.setIfInBounds_toArray, List.set_cons_zero, List.set_cons_succ]
                      refine wpAnyH_ready (rs := [17]) (by kernel_rfl) (by simp) ?_
                      refine AllReadyH.cons (o := ⟨some 71, .call { callee := .builtin .append, args := #[.tmp 63, .tmp 70], argTypes := #[22, 22] }, _, _, _, _⟩) rfl (fun K hK => ?_) AllReadyH.nil
                      · refine Lay.step_append2 (E := LMg) rfl (.tmp 63) (.tmp 70) 22 rfl (w.heap.size + 1) 26 i0 (.agg #[.int .i64 0, .int .i64 0, .int .i64 0, .slice none 0 0, .slice none 0 0]) 72 Try.underlying22 hi0 hzi0 hzi1 hzi2 rfl v51 (l.take k ++ [x]) rfl HO51.out (some ⟨V35.heap.size, 0, none⟩) 1 1 [y] rfl (fun _ => ⟨_, _, rfl⟩) (Nat.le_refl _) (rowK_box HB51E.out HN51E.out HY0.out (Ext.trans HXA.out HX51.out) (fun k hk => by have := (HO51.out.lt k hk).1; omega)) (by have := HKB.out; have := HTK.out; unfold maxLen; simp; try omega) (by have := HKB.out; have := HTK.out; simp; try omega) (by have := HX51.out.size; simp at this; omega) ?_
                        intro v52 V52 hown52 hg52 hbk52
                        have HX52 := Lib.hid (HO51.out.below HX51.out (by simp) hg52)
                        have HO52 : Hid (LMg.Own V52 (w.heap.size + 1) 26 v52 (l.take k ++ [x] ++ [y])) := Lib.hid (hown52)
                        have HB52C := Lib.hid (heap_grown HB51C.out hg52 HN51C.out)
                        have HN52C := Lib.hid (ne_append HB51C.out HN51C.out hbk52)
                        have HB52E := Lib.hid (heap_grown HB51E.out hg52 HN51E.out)
                        have HN52E := Lib.hid (ne_append HB51E.out HN51E.out hbk52)
                        obtain ⟨pz, nz, cz, rfl⟩ := own_form HO52.out
                        clear hown52 hg52 hbk52
                        refine hK.out _ _ (HSA.out _ HX52.out) (fun _ => ?_)
                        clear hK K
                        try simp only [Act.put, List.setIfInBounds_toArray, List.set_cons_zero, List.set_cons_succ]
                        refine wpAnyH_take (i := 18) (oi := ⟨some 7, _, _, _, _, _⟩) (v := .slice pz nz cz) rfl (by kernel_rfl) (by kernel_rfl) (by kernel_rfl) (fun _ _ _ h => h) (Or.inl ⟨by rfl, ?_⟩) (HSA.out _ HX52.out) ?_
                        · rintro w' ⟨s1, s2, s3, s4, s5, t1, t2, t3, t4, t5⟩
                          go_simp
                        try simp only [Act.put, List.setIfInBounds_toArray, List.set_cons_zero, List.set_cons_succ]
                        refine wpAnyH_done (by kernel_rfl) ?_ _
                        go_wp2
                        go_ret
                        exact ⟨⟨_, rfl, by rw [HS.out]; exact HO52.out.sl⟩, Ext.trans HXA.out HX52.out⟩
            · go_simp
              have HX53' : Hid (Ext Wd (Wd.alloc (.cells #[.int .i64 y.a, .int .i64 y.b, .int .i64 y.k, .slice p2 n2 c2, .slice q2 m2 d2] 26))) := Lib.hid (Ext.alloc _ _)
              have HX53 : Hid (Ext (w.alloc (.cells #[.int .i64 x.a, .int .i64 x.b, .int .i64 x.k, .slice p1 n1 c1, .slice q1 m1 d1] 26)) (Wd.alloc (.cells #[.int .i64 y.a, .int .i64 y.b, .int .i64 y.k, .slice p2 n2 c2, .slice q2 m2 d2] 26))) := Lib.hid (Ext.trans HX0D.out HX53'.out)
              have HB53E := Lib.hid (heap_alloc_new Wd (.cells #[.int .i64 y.a, .int .i64 y.b, .int .i64 y.k, .slice p2 n2 c2, .slice q2 m2 d2] 26))
              refine hK.out _ _ (HSA.out _ HX53.out) (fun _ => ?_)
              clear hK K
              try simp only [Act.put, List.setIfInBounds_toArray, List.set_cons_zero, List.set_cons_succ]
              generalize Wd.alloc (.cells #[.int .i64 y.a, .int .i64 y.b, .int .i64 y.k, .slice p2 n2 c2, .slice q2 m2 d2] 26) = V53 at HX53' HX53 HB53E ⊢
              refine wpAnyH_ready (rs := [0, 8]) (by kernel_rfl) (by simp) ?_
              refine AllReadyH.cons (o := ⟨some 54, .buildSlice 22 0 #[], _, _, _, _⟩) rfl (fun K hK => ?_) (AllReadyH.cons (o := ⟨some 62, .buildSlice 22 1 #[(0, .tmp 61)], _, _, _, _⟩) rfl (fun K hK => ?_) AllReadyH.nil)
              · go_simp
                have HX54' : Hid (Ext V53 (V53.alloc (.cells #[] 26))) := Lib.hid (Ext.alloc _ _)
                have HX54 : Hid (Ext (w.alloc (.cells #[.int .i64 x.a, .int .i64 x.b, .int .i64 x.k, .slice p1 n1 c1, .slice q1 m1 d1] 26)) (V53.alloc (.cells #[] 26))) := Lib.hid (Ext.trans HX53.out HX54'.out)
                have HO54 : Hid (LMg.Own (V53.alloc (.cells #[] 26)) (w.heap.size + 1) 26 (.slice (some ⟨V53.heap.size, 0, none⟩) 0 0) []) := Lib.hid (Lay.Own.made (E := LMg) V53 #[] 0 (w.heap.size + 1) 26 (by have := HX53.out.size; simp at this; omega) (by decide) rfl)
                have HB54E := Lib.hid (heap_ext HB53E.out HX54'.out)
                have HN54E : Hid ((Value.slice (some ⟨V53.heap.size, 0, none⟩) 0 0).ownBlock ≠ some Wd.heap.size) := Lib.hid (fun e => by have := (Array.getElem?_eq_some_iff.1 HB53E.out).1; simp only [Value.ownBlock, Option.some.injEq] at e; omega)
                refine hK.out _ _ (HSA.out _ HX54.out) (fun _ => ?_)
                clear hK K
                try simp only [Act.put, List.setIfInBounds_toArray, List.set_cons_zero, List.set_cons_succ]
                generalize V53.alloc (.cells #[] 26) = V54 at HX54' HX54 HB54E HO54 ⊢
                refine wpAnyH_ready (rs := [6, 8]) (by kernel_rfl) (by simp) ?_
                refine AllReadyH.cons (o := ⟨some 60, .call { callee := .builtin .append, args := #[.tmp 54, .tmp 59], argTypes := #[22, 22] }, _, _, _, _⟩) rfl (fun K hK => ?_) (AllReadyH.cons (o := ⟨some 62, .buildSlice 22 1 #[(0, .tmp 61)], _, _, _, _⟩) rfl (fun K hK => ?_) AllReadyH.nil)
                · refine Lay.step_append2 (E := LMg) rfl (.tmp 54) (.tmp 59) 22 rfl (w.heap.size + 1) 26 i0 (.agg #[.int .i64 0, .int .i64 0, .int .i64 0, .slice none 0 0, .slice none 0 0]) 72 Try.underlying22 hi0 hzi0 hzi1 hzi2 rfl (Value.slice (some ⟨V53.heap.size, 0, none⟩) 0 0) ([]) rfl HO54.out (some ⟨b, off, none⟩) k c (l.take k) rfl (fun _ => ⟨_, _, rfl⟩) HKC.out (HPT.out.keep (Ext.trans HXA.out HX54.out) (fun k hk => by have := (HO54.out.lt k hk).1; omega)) (by have := HKB.out; have := HTK.out; unfold maxLen; simp; try omega) (by have := HKB.out; have := HTK.out; simp; try omega) (by have := HX54.out.size; simp at this; omega) ?_
                  intro v55 V55 hown55 hg55 hbk55
                  have HX55 := Lib.hid (HO54.out.below HX54.out (by simp) hg55)
                  have HO55 : Hid (LMg.Own V55 (w.heap.size + 1) 26 v55 (l.take k)) := Lib.hid (by simpa using hown55)
                  have HB55E := Lib.hid (heap_grown HB54E.out hg55 HN54E.out)
                  have HN55E := Lib.hid (ne_append HB54E.out HN54E.out hbk55)
                  clear hown55 hg55 hbk55
                  refine hK.out _ _ (HSA.out _ HX55.out) (fun _ => ?_)
                  clear hK K
                  try simp only [Act.put, List.setIfInBounds_toArray, List.set_cons_zero, List.set_cons_succ]
                  refine wpAnyH_ready (rs := [8]) (by kernel_rfl) (by simp) ?_
                  refine AllReadyH.cons (o := ⟨some 62, .buildSlice 22 1 #[(0, .tmp 61)], _, _, _, _⟩) rfl (fun K hK => ?_) AllReadyH.nil
                  · go_simp
                    have HX56' : Hid (Ext V55 (V55.alloc (.cells #[.int .i64 x.a, .int .i64 x.b, .int .i64 x.k, .slice p1 n1 c1, .slice q1 m1 d1] 26))) := Lib.hid (Ext.alloc _ _)
                    have HX56 : Hid (Ext (w.alloc (.cells #[.int .i64 x.a, .int .i64 x.b, .int .i64 x.k, .slice p1 n1 c1, .slice q1 m1 d1] 26)) (V55.alloc (.cells #[.int .i64 x.a, .int .i64 x.b, .int .i64 x.k, .slice p1 n1 c1, .slice q1 m1 d1] 26))) := Lib.hid (Ext.trans HX55.out HX56'.out)
                    have HB56C := Lib.hid (heap_alloc_new V55 (.cells #[.int .i64 x.a, .int .i64 x.b, .int .i64 x.k, .slice p1 n1 c1, .slice q1 m1 d1] 26))
                    have HB56E := Lib.hid (heap_ext HB55E.out HX56'.out)
                    have HO56 := Lib.hid (HO55.out.ext HX56'.out)
                    have HN56C : Hid (v55.ownBlock ≠ some V55.heap.size) := Lib.hid (fun e => by have := (HO55.out.lt _ e).2; omega)
                    refine hK.out _ _ (HSA.out _ HX56.out) (fun _ => ?_)
                    clear hK K
                    try simp only [Act.put, List.setIfInBounds_toArray, List.set_cons_zero, List.set_cons_succ]
                    generalize V55.alloc (.cells #[.int .i64 x.a, .int .i64 x.b, .int .i64 x.k, .slice p1 n1 c1, .slice q1 m1 d1] 26) = V56 at HX56' HX56 HB56E HB56C HO56 ⊢
                    refine wpAnyH_ready (rs := [9]) (by kernel_rfl) (by simp) ?_
                    refine AllReadyH.cons (o := ⟨some 63, .call { callee := .builtin .append, args := #[.tmp 60, .tmp 62], argTypes := #[22, 22] }, _, _, _, _⟩) rfl (fun K hK => ?_) AllReadyH.nil
                    · refine Lay.step_append2 (E := LMg) rfl (.tmp 60) (.tmp 62) 22 rfl (w.heap.size + 1) 26 i0 (.agg #[.int .i64 0, .int .i64 0, .int .i64 0, .slice none 0 0, .slice none 0 0]) 72 Try.underlying22 hi0 hzi0 hzi1 hzi2 rfl v55 (l.take k) rfl HO56.out (some ⟨V55.heap.size, 0, none⟩) 1 1 [x] rfl (fun _ => ⟨_, _, rfl⟩) (Nat.le_refl _) (rowK_box HB56C.out HN56C.out HX0.out (Ext.trans HXA.out HX56.out) (fun k hk => by have := (HO56.out.lt k hk).1; omega)) (by have := HKB.out; have := HTK.out; unfold maxLen; simp; try omega) (by have := HKB.out; have := HTK.out; simp; try omega) (by have := HX56.out.size; simp at this; omega) ?_
                      intro v57 V57 hown57 hg57 hbk57
                      have HX57 := Lib.hid (HO56.out.below HX56.out (by simp) hg57)
                      have HO57 : Hid (LMg.Own V57 (w.heap.size + 1) 26 v57 (l.take k ++ [x])) := Lib.hid (hown57)
                      have HB57E := Lib.hid (heap_grown HB56E.out hg57 HN55E.out)
                      have HN57E := Lib.hid (ne_append HB56E.out HN55E.out hbk57)
                      have HB57C := Lib.hid (heap_grown HB56C.out hg57 HN56C.out)
                      have HN57C := Lib.hid (ne_append HB56C.out HN56C.out hbk57)
                      clear hown57 hg57 hbk57
                      refine hK.out _ _ (HSA.out _ HX57.out) (fun _ => ?_)
                      clear hK K
                      try simp only [Act.put, List.setIfInBounds_toArray, List.set_cons_zero, List.set_cons_succ]
                      refine wpAnyH_ready (rs := [17]) (by kernel_rfl) (by simp) ?_
                      refine AllReadyH.cons (o := ⟨some 71, .call { callee := .builtin .append, args := #[.tmp 63, .tmp 70], argTypes := #[22, 22] }, _, _, _, _⟩) rfl (fun K hK => ?_) AllReadyH.nil
                      · refine Lay.step_append2 (E := LMg) rfl (.tmp 63) (.tmp 70) 22 rfl (w.heap.size + 1) 26 i0 (.agg #[.int .i64 0, .int .i64 0, .int .i64 0, .slice none 0 0, .slice none 0 0]) 72 Try.underlying22 hi0 hzi0 hzi1 hzi2 rfl v57 (l.take k ++ [x]) rfl HO57.out (some ⟨Wd.heap.size, 0, none⟩) 1 1 [y] rfl (fun _ => ⟨_, _, rfl⟩) (Nat.le_refl _) (rowK_box HB57E.out HN57E.out HY0.out (Ext.trans HXA.out HX57.out) (fun k hk => by have := (HO57.out.lt k hk).1; omega)) (by have := HKB.out; have := HTK.out; unfold maxLen; simp; try omega) (by have := HKB.out; have := HTK.out; simp; try omega) (by have := HX57.out.size; simp at this; omega) ?_
                        intro v58 V58 hown58 hg58 hbk58
                        have HX58 := Lib.hid (HO57.out.below HX57.out (by simp) hg58)
                        have HO58 : Hid (LMg.Own V58 (w.heap.size + 1) 26 v58 (l.take k ++ [x] ++ [y])) := Lib.hid (hown58)
                        have HB58E := Lib.hid (heap_grown HB57E.out hg58 HN57E.out)
                        have HN58E := Lib.hid (ne_append HB57E.out HN57E.out hbk58)
                        have HB58C := Lib.hid (heap_grown HB57C.out hg58 HN57C.out)
                        have HN58C := Lib.hid (ne_append HB57C.out HN57C.out hbk58)
                        obtain ⟨pz, nz, cz, rfl⟩ := own_form HO58.out
                        clear hown58 hg58 hbk58
                        refine hK.out _ _ (HSA.out _ HX58.out) (fun _ => ?_)
                        clear hK K
                        try simp only [Act.put, List.setIfInBounds_toArray, List.set_cons_zero, List.set_cons_succ]
                        refine wpAnyH_take (i := 18) (oi := ⟨some 7, _, _, _, _, _⟩) (v := .slice pz nz cz) rfl (by kernel_rfl) (by kernel_rfl) (by kernel_rfl) (fun _ _ _ h => h) (Or.inl ⟨by rfl, ?_⟩) (HSA.out _ HX58.out) ?_
                        · rintro w' ⟨s1, s2, s3, s4, s5, t1, t2, t3, t4, t5⟩
                          go_simp
                        try simp only [Act.put, List.setIfInBounds_toArray, List.set_cons_zero, List.set_cons_succ]
                        refine wpAnyH_done (by kernel_rfl) ?_ _
                        go_wp2
                        go_ret
                        exact ⟨⟨_, rfl, by rw [HS.out]; exact HO58.out.sl⟩, Ext.trans HXA.out HX58.out⟩
                · go_simp
                  have HX59' : Hid (Ext V54 (V54.alloc (.cells #[.int .i64 x.a, .int .i64 x.b, .int .i64 x.k, .slice p1 n1 c1, .slice q1 m1 d1] 26))) := Lib.hid (Ext.alloc _ _)
                  have HX59 : Hid (Ext (w.alloc (.cells #[.int .i64 x.a, .int .i64 x.b, .int .i64 x.k, .slice p1 n1 c1, .slice q1 m1 d1] 26)) (V54.alloc (.cells #[.int .i64 x.a, .int .i64 x.b, .int .i64 x.k, .slice p1 n1 c1, .slice q1 m1 d1] 26))) := Lib.hid (Ext.trans HX54.out HX59'.out)
                  have HB59C := Lib.hid (heap_alloc_new V54 (.cells #[.int .i64 x.a, .int .i64 x.b, .int .i64 x.k, .slice p1 n1 c1, .slice q1 m1 d1] 26))
                  have HB59E := Lib.hid (heap_ext HB54E.out HX59'.out)
                  have HO59 := Lib.hid (HO54.out.ext HX59'.out)
                  have HN59C : Hid ((Value.slice (some ⟨V53.heap.size, 0, none⟩) 0 0).ownBlock ≠ some V54.heap.size) := Lib.hid (fun e => by have := (HO54.out.lt _ e).2; omega)
                  refine hK.out _ _ (HSA.out _ HX59.out) (fun _ => ?_)
                  clear hK K
                  try simp only [Act.put, List.setIfInBounds_toArray, List.set_cons_zero, List.set_cons_succ]
                  generalize V54.alloc (.cells #[.int .i64 x.a, .int .i64 x.b, .int .i64 x.k, .slice p1 n1 c1, .slice q1 m1 d1] 26) = V59 at HX59' HX59 HB59E HB59C HO59 ⊢
                  refine wpAnyH_ready (rs := [6]) (by kernel_rfl) (by simp) ?_
                  refine AllReadyH.cons (o := ⟨some 60, .call { callee := .builtin .append, args := #[.tmp 54, .tmp 59], argTypes := #[22, 22] }, _, _, _, _⟩) rfl (fun K hK => ?_) AllReadyH.nil
                  · refine Lay.step_append2 (E := LMg) rfl (.tmp 54) (.tmp 59) 22 rfl (w.heap.size + 1) 26 i0 (.agg #[.int .i64 0, .int .i64 0, .int .i64 0, .slice none 0 0, .slice none 0 0]) 72 Try.underlying22 hi0 hzi0 hzi1 hzi2 rfl (Value.slice (some ⟨V53.heap.size, 0, none⟩) 0 0) ([]) rfl HO59.out (some ⟨b, off, none⟩) k c (l.take k) rfl (fun _ => ⟨_, _, rfl⟩) HKC.out (HPT.out.keep (Ext.trans HXA.out HX59.out) (fun k hk => by have := (HO59.out.lt k hk).1; omega)) (by have := HKB.out; have := HTK.out; unfold maxLen; simp; try omega) (by have := HKB.out; have := HTK.out; simp; try omega) (by have := HX59.out.size; simp at this; omega) ?_
                    intro v60 V60 hown60 hg60 hbk60
                    have HX60 := Lib.hid (HO59.out.below HX59.out (by simp) hg60)
                    have HO60 : Hid (LMg.Own V60 (w.heap.size + 1) 26 v60 (l.take k)) := Lib.hid (by simpa using hown60)
                    have HB60E := Lib.hid (heap_grown HB59E.out hg60 HN54E.out)
                    have HN60E := Lib.hid (ne_append HB59E.out HN54E.out hbk60)
                    have HB60C := Lib.hid (heap_grown HB59C.out hg60 HN59C.out)
                    have HN60C := Lib.hid (ne_append HB59C.out HN59C.out hbk60)
                    clear hown60 hg60 hbk60
                    refine hK.out _ _ (HSA.out _ HX60.out) (fun _ => ?_)
                    clear hK K
                    try simp only [Act.put, List.setIfInBounds_toArray, List.set_cons_zero, List.set_cons_succ]
                    refine wpAnyH_ready (rs := [9]) (by kernel_rfl) (by simp) ?_
                    refine AllReadyH.cons (o := ⟨some 63, .call { callee := .builtin .append, args := #[.tmp 60, .tmp 62], argTypes := #[22, 22] }, _, _, _, _⟩) rfl (fun K hK => ?_) AllReadyH.nil
                    · refine Lay.step_append2 (E := LMg) rfl (.tmp 60) (.tmp 62) 22 rfl (w.heap.size + 1) 26 i0 (.agg #[.int .i64 0, .int .i64 0, .int .i64 0, .slice none 0 0, .slice none 0 0]) 72 Try.underlying22 hi0 hzi0 hzi1 hzi2 rfl v60 (l.take k) rfl HO60.out (some ⟨V54.heap.size, 0, none⟩) 1 1 [x] rfl (fun _ => ⟨_, _, rfl⟩) (Nat.le_refl _) (rowK_box HB60C.out HN60C.out HX0.out (Ext.trans HXA.out HX60.out) (fun k hk => by have := (HO60.out.lt k hk).1; omega)) (by have := HKB.out; have := HTK.out; unfold maxLen; simp; try omega) (by have := HKB.out; have := HTK.out; simp; try omega) (by have := HX60.out.size; simp at this; omega) ?_
                      intro v61 V61 hown61 hg61 hbk61
                      have HX61 := Lib.hid (HO60.out.below HX60.out (by simp) hg61)
                      have HO61 : Hid (LMg.Own V61 (w.heap.size + 1) 26 v61 (l.take k ++ [x])) := Lib.hid (hown61)
                      have HB61E := Lib.hid (heap_grown HB60E.out hg61 HN60E.out)
                      have HN61E := Lib.hid (ne_append HB60E.out HN60E.out hbk61)
                      have HB61C := Lib.hid (heap_grown HB60C.out hg61 HN60C.out)
                      have HN61C := Lib.hid (ne_append HB60C.out HN60C.out hbk61)
                      clear hown61 hg61 hbk61
                      refine hK.out _ _ (HSA.out _ HX61.out) (fun _ => ?_)
                      clear hK K
                      try simp only [Act.put, List.setIfInBounds_toArray, List.set_cons_zero, List.set_cons_succ]
                      refine wpAnyH_ready (rs := [17]) (by kernel_rfl) (by simp) ?_
                      refine AllReadyH.cons (o := ⟨some 71, .call { callee := .builtin .append, args := #[.tmp 63, .tmp 70], argTypes := #[22, 22] }, _, _, _, _⟩) rfl (fun K hK => ?_) AllReadyH.nil
                      · refine Lay.step_append2 (E := LMg) rfl (.tmp 63) (.tmp 70) 22 rfl (w.heap.size + 1) 26 i0 (.agg #[.int .i64 0, .int .i64 0, .int .i64 0, .slice none 0 0, .slice none 0 0]) 72 Try.underlying22 hi0 hzi0 hzi1 hzi2 rfl v61 (l.take k ++ [x]) rfl HO61.out (some ⟨Wd.heap.size, 0, none⟩) 1 1 [y] rfl (fun _ => ⟨_, _, rfl⟩) (Nat.le_refl _) (rowK_box HB61E.out HN61E.out HY0.out (Ext.trans HXA.out HX61.out) (fun k hk => by have := (HO61.out.lt k hk).1; omega)) (by have := HKB.out; have := HTK.out; unfold maxLen; simp; try omega) (by have := HKB.out; have := HTK.out; simp; try omega) (by have := HX61.out.size; simp at this; omega) ?_
                        intro v62 V62 hown62 hg62 hbk62
                        have HX62 := Lib.hid (HO61.out.below HX61.out (by simp) hg62)
                        have HO62 : Hid (LMg.Own V62 (w.heap.size + 1) 26 v62 (l.take k ++ [x] ++ [y])) := Lib.hid (hown62)
                        have HB62E := Lib.hid (heap_grown HB61E.out hg62 HN61E.out)
                        have HN62E := Lib.hid (ne_append HB61E.out HN61E.out hbk62)
                        have HB62C := Lib.hid (heap_grown HB61C.out hg62 HN61C.out)
                        have HN62C := Lib.hid (ne_append HB61C.out HN61C.out hbk62)
                        obtain ⟨pz, nz, cz, rfl⟩ := own_form HO62.out
                        clear hown62 hg62 hbk62
                        refine hK.out _ _ (HSA.out _ HX62.out) (fun _ => ?_)
                        clear hK K
                        try simp only [Act.put, List.setIfInBounds_toArray, List.set_cons_zero, List.set_cons_succ]
                        refine wpAnyH_take (i := 18) (oi := ⟨some 7, _, _, _, _, _⟩) (v := .slice pz nz cz) rfl (by kernel_rfl) (by kernel_rfl) (by kernel_rfl) (fun _ _ _ h => h) (Or.inl ⟨by rfl, ?_⟩) (HSA.out _ HX62.out) ?_
                        · rintro w' ⟨s1, s2, s3, s4, s5, t1, t2, t3, t4, t5⟩
                          go_simp
                        try simp only [Act.put, List.setIfInBounds_toArray, List.set_cons_zero, List.set_cons_succ]
                        refine wpAnyH_done (by kernel_rfl) ?_ _
                        go_wp2
                        go_ret
                        exact ⟨⟨_, rfl, by rw [HS.out]; exact HO62.out.sl⟩, Ext.trans HXA.out HX62.out⟩
              · go_simp
                have HX63' : Hid (Ext V53 (V53.alloc (.cells #[.int .i64 x.a, .int .i64 x.b, .int .i64 x.k, .slice p1 n1 c1, .slice q1 m1 d1] 26))) := Lib.hid (Ext.alloc _ _)
                have HX63 : Hid (Ext (w.alloc (.cells #[.int .i64 x.a, .int .i64 x.b, .int .i64 x.k, .slice p1 n1 c1, .slice q1 m1 d1] 26)) (V53.alloc (.cells #[.int .i64 x.a, .int .i64 x.b, .int .i64 x.k, .slice p1 n1 c1, .slice q1 m1 d1] 26))) := Lib.hid (Ext.trans HX53.out HX63'.out)
                have HB63C := Lib.hid (heap_alloc_new V53 (.cells #[.int .i64 x.a, .int .i64 x.b, .int .i64 x.k, .slice p1 n1 c1, .slice q1 m1 d1] 26))
                have HB63E := Lib.hid (heap_ext HB53E.out HX63'.out)
                refine hK.out _ _ (HSA.out _ HX63.out) (fun _ => ?_)
                clear hK K
                try simp only [Act.put, List.setIfInBounds_toArray, List.set_cons_zero, List.set_cons_succ]
                generalize V53.alloc (.cells #[.int .i64 x.a, .int .i64 x.b, .int .i64 x.k, .slice p1 n1 c1, .slice q1 m1 d1] 26) = V63 at HX63' HX63 HB63E HB63C ⊢
                refine wpAnyH_ready (rs := [0]) (by kernel_rfl) (by simp) ?_
                refine AllReadyH.cons (o := ⟨some 54, .buildSlice 22 0 #[], _, _, _, _⟩) rfl (fun K hK => ?_) AllReadyH.nil
                · go_simp
                  have HX64' : Hid (Ext V63 (V63.alloc (.cells #[] 26))) := Lib.hid (Ext.alloc _ _)
                  have HX64 : Hid (Ext (w.alloc (.cells #[.int .i64 x.a, .int .i64 x.b, .int .i64 x.k, .slice p1 n1 c1, .slice q1 m1 d1] 26)) (V63.alloc (.cells #[] 26))) := Lib.hid (Ext.trans HX63.out HX64'.out)
                  have HO64 : Hid (LMg.Own (V63.alloc (.cells #[] 26)) (w.heap.size + 1) 26 (.slice (some ⟨V63.heap.size, 0, none⟩) 0 0) []) := Lib.hid (Lay.Own.made (E := LMg) V63 #[] 0 (w.heap.size + 1) 26 (by have := HX63.out.size; simp at this; omega) (by decide) rfl)
                  have HB64E := Lib.hid (heap_ext HB63E.out HX64'.out)
                  have HN64E : Hid ((Value.slice (some ⟨V63.heap.size, 0, none⟩) 0 0).ownBlock ≠ some Wd.heap.size) := Lib.hid (fun e => by have := (Array.getElem?_eq_some_iff.1 HB63E.out).1; simp only [Value.ownBlock, Option.some.injEq] at e; omega)
                  have HB64C := Lib.hid (heap_ext HB63C.out HX64'.out)
                  have HN64C : Hid ((Value.slice (some ⟨V63.heap.size, 0, none⟩) 0 0).ownBlock ≠ some V53.heap.size) := Lib.hid (fun e => by have := (Array.getElem?_eq_some_iff.1 HB63C.out).1; simp only [Value.ownBlock, Option.some.injEq] at e; omega)
                  refine hK.out _ _ (HSA.out _ HX64.out) (fun _ => ?_)
                  clear hK K
                  try simp only [Act.put, List.setIfInBounds_toArray, List.set_cons_zero, List.set_cons_succ]
                  generalize V63.alloc (.cells #[] 26) = V64 at HX64' HX64 HB64E HB64C HO64 ⊢
                  refine wpAnyH_ready (rs := [6]) (by kernel_rfl) (by simp) ?_
                  refine AllReadyH.cons (o := ⟨some 60, .call { callee := .builtin .append, args := #[.tmp 54, .tmp 59], argTypes := #[22, 22] }, _, _, _, _⟩) rfl (fun K hK => ?_) AllReadyH.nil
                  · refine Lay.step_append2 (E := LMg) rfl (.tmp 54) (.tmp 59) 22 rfl (w.heap.size + 1) 26 i0 (.agg #[.int .i64 0, .int .i64 0, .int .i64 0, .slice none 0 0, .slice none 0 0]) 72 Try.underlying22 hi0 hzi0 hzi1 hzi2 rfl (Value.slice (some ⟨V63.heap.size, 0, none⟩) 0 0) ([]) rfl HO64.out (some ⟨b, off, none⟩) k c (l.take k) rfl (fun _ => ⟨_, _, rfl⟩) HKC.out (HPT.out.keep (Ext.trans HXA.out HX64.out) (fun k hk => by have := (HO64.out.lt k hk).1; omega)) (by have := HKB.out; have := HTK.out; unfold maxLen; simp; try omega) (by have := HKB.out; have := HTK.out; simp; try omega) (by have := HX64.out.size; simp at this; omega) ?_
                    intro v65 V65 hown65 hg65 hbk65
                    have HX65 := Lib.hid (HO64.out.below HX64.out (by simp) hg65)
                    have HO65 : Hid (LMg.Own V65 (w.heap.size + 1) 26 v65 (l.take k)) := Lib.hid (by simpa using hown65)
                    have HB65E := Lib.hid (heap_grown HB64E.out hg65 HN64E.out)
                    have HN65E := Lib.hid (ne_append HB64E.out HN64E.out hbk65)
                    have HB65C := Lib.hid (heap_grown HB64C.out hg65 HN64C.out)
                    have HN65C := Lib.hid (ne_append HB64C.out HN64C.out hbk65)
                    clear hown65 hg65 hbk65
                    refine hK.out _ _ (HSA.out _ HX65.out) (fun _ => ?_)
                    clear hK K
                    try simp only [Act.put, List.setIfInBounds_toArray, List.set_cons_zero, List.set_cons_succ]
                    refine wpAnyH_ready (rs := [9]) (by kernel_rfl) (by simp) ?_
                    refine AllReadyH.cons (o := ⟨some 63, .call { callee := .builtin .append, args := #[.tmp 60, .tmp 62], argTypes := #[22, 22] }, _, _, _, _⟩) rfl (fun K hK => ?_) AllReadyH.nil
                    · refine Lay.step_append2 (E := LMg) rfl (.tmp 60) (.tmp 62) 22 rfl (w.heap.size + 1) 26 i0 (.agg #[.int .i64 0, .int .i64 0, .int .i64 0, .slice none 0 0, .slice none 0 0]) 72 Try.underlying22 hi0 hzi0 hzi1 hzi2 rfl v65 (l.take k) rfl HO65.out (some ⟨V53.heap.size, 0, none⟩) 1 1 [x] rfl (fun _ => ⟨_, _, rfl⟩) (Nat.le_refl _) (rowK_box HB65C.out HN65C.out HX0.out (Ext.trans HXA.out HX65.out) (fun k hk => by have := (HO65.out.lt k hk).1; omega)) (by have := HKB.out; have := HTK.out; unfold maxLen; simp; try omega) (by have := HKB.out; have := HTK.out; simp; try omega) (by have := HX65.out.size; simp at this; omega) ?_
                      intro v66 V66 hown66 hg66 hbk66
                      have HX66 := Lib.hid (HO65.out.below HX65.out (by simp) hg66)
                      have HO66 : Hid (LMg.Own V66 (w.heap.size + 1) 26 v66 (l.take k ++ [x])) := Lib.hid (hown66)
                      have HB66E := Lib.hid (heap_grown HB65E.out hg66 HN65E.out)
                      have HN66E := Lib.hid (ne_append HB65E.out HN65E.out hbk66)
                      have HB66C := Lib.hid (heap_grown HB65C.out hg66 HN65C.out)
                      have HN66C := Lib.hid (ne_append HB65C.out HN65C.out hbk66)
                      clear hown66 hg66 hbk66
                      refine hK.out _ _ (HSA.out _ HX66.out) (fun _ => ?_)
                      clear hK K
                      try simp only [Act.put, List.setIfInBounds_toArray, List.set_cons_zero, List.set_cons_succ]
                      refine wpAnyH_ready (rs := [17]) (by kernel_rfl) (by simp) ?_
                      refine AllReadyH.cons (o := ⟨some 71, .call { callee := .builtin .append, args := #[.tmp 63, .tmp 70], argTypes := #[22, 22] }, _, _, _, _⟩) rfl (fun K hK => ?_) AllReadyH.nil
                      · refine Lay.step_append2 (E := LMg) rfl (.tmp 63) (.tmp 70) 22 rfl (w.heap.size + 1) 26 i0 (.agg #[.int .i64 0, .int .i64 0, .int .i64 0, .slice none 0 0, .slice none 0 0]) 72 Try.underlying22 hi0 hzi0 hzi1 hzi2 rfl v66 (l.take k ++ [x]) rfl HO66.out (some ⟨Wd.heap.size, 0, none⟩) 1 1 [y] rfl (fun _ => ⟨_, _, rfl⟩) (Nat.le_refl _) (rowK_box HB66E.out HN66E.out HY0.out (Ext.trans HXA.out HX66.out) (fun k hk => by have := (HO66.out.lt k hk).1; omega)) (by have := HKB.out; have := HTK.out; unfold maxLen; simp; try omega) (by have := HKB.out; have := HTK.out; simp; try omega) (by have := HX66.out.size; simp at this; omega) ?_
                        intro v67 V67 hown67 hg67 hbk67
                        have HX67 := Lib.hid (HO66.out.below HX66.out (by simp) hg67)
                        have HO67 : Hid (LMg.Own V67 (w.heap.size + 1) 26 v67 (l.take k ++ [x] ++ [y])) := Lib.hid (hown67)
                        have HB67E := Lib.hid (heap_grown HB66E.out hg67 HN66E.out)
                        have HN67E := Lib.hid (ne_append HB66E.out HN66E.out hbk67)
                        have HB67C := Lib.hid (heap_grown HB66C.out hg67 HN66C.out)
                        have HN67C := Lib.hid (ne_append HB66C.out HN66C.out hbk67)
                        obtain ⟨pz, nz, cz, rfl⟩ := own_form HO67.out
                        clear hown67 hg67 hbk67
                        refine hK.out _ _ (HSA.out _ HX67.out) (fun _ => ?_)
                        clear hK K
                        try simp only [Act.put, List.setIfInBounds_toArray, List.set_cons_zero, List.set_cons_succ]
                        refine wpAnyH_take (i := 18) (oi := ⟨some 7, _, _, _, _, _⟩) (v := .slice pz nz cz) rfl (by kernel_rfl) (by kernel_rfl) (by kernel_rfl) (fun _ _ _ h => h) (Or.inl ⟨by rfl, ?_⟩) (HSA.out _ HX67.out) ?_
                        · rintro w' ⟨s1, s2, s3, s4, s5, t1, t2, t3, t4, t5⟩
                          go_simp
                        try simp only [Act.put, List.setIfInBounds_toArray, List.set_cons_zero, List.set_cons_succ]
                        refine wpAnyH_done (by kernel_rfl) ?_ _
                        go_wp2
                        go_ret
                        exact ⟨⟨_, rfl, by rw [HS.out]; exact HO67.out.sl⟩, Ext.trans HXA.out HX67.out⟩
        · have hf4 : (f == 4) = false := by simp [f4]
          have hs : sendS l x f = l := by unfold sendS; rw [if_neg (by rw [HLN.out]; exact hful), if_neg f1, if_neg f3, if_neg f4]
          have HS := Lib.hid hs
          clear hs f1 f3 f4
          go_enter Try.func15, Try.ntmps15
          go_wp2_with (at_builtin; refine Lay.wpList_append (E := LMg) rfl (.tmp 8) (.tmp 9) 22 rfl (w.heap.size + 1) 26 i0 (.agg #[.int .i64 0, .int .i64 0, .int .i64 0, .slice none 0 0, .slice none 0 0]) 72 Try.underlying22 hi0 hzi0 hzi1 hzi2 rfl (.slice (some ⟨w.heap.size + 1, 0, none⟩) 0 0) [] rfl HO0.out p n c l rfl HPL.out (by omega) (HP.out.keep (Ext.trans HXA.out HX00.out) (fun k hk => by have := (HO0.out.lt k hk).1; omega)) (by have := HNB.out; unfold maxLen; simp; omega) (by have := HNB.out; simp; omega) (by simp) ?_; intro v3 w3 hown3 hg3; have HX3 := Lib.hid (HO0.out.below HX00.out (by simp) hg3); have HO3 : Hid (LMg.Own w3 (w.heap.size + 1) 26 v3 l) := Lib.hid (by simpa using hown3); clear hown3 hg3; obtain ⟨f0, f1, f2, f3, f4⟩ := box5 HX3.out; have HXC3 : Hid (Ext (w.alloc (.cells #[.int .i64 x.a, .int .i64 x.b, .int .i64 x.k, .slice p1 n1 c1, .slice q1 m1 d1] 26)) (w3.alloc (.cells #[.int .i64 x.a, .int .i64 x.b, .int .i64 x.k, .slice p1 n1 c1, .slice q1 m1 d1] 26))) := Lib.hid (Ext.trans HX3.out (Ext.alloc _ _)); have HOA3 : Hid (LMg.Own (w3.alloc (.cells #[.int .i64 x.a, .int .i64 x.b, .int .i64 x.k, .slice p1 n1 c1, .slice q1 m1 d1] 26)) (w.heap.size + 1) 26 v3 (l)) := Lib.hid (HO3.out.ext (Ext.alloc _ _)); have HRK3 : Hid (LMg.RowK (w3.alloc (.cells #[.int .i64 x.a, .int .i64 x.b, .int .i64 x.k, .slice p1 n1 c1, .slice q1 m1 d1] 26)) v3.ownBlock (some ⟨w3.heap.size, 0, none⟩) 1 [x]) := Lib.hid (Lay.RowK.lit (Ext.refl _) (mg_keep HX0.out (Ext.trans HXA.out HXC3.out) (fun k hk => (by have := (HOA3.out.lt k hk).1; omega))) rfl rfl (by decide)); obtain ⟨pv3, nv3, cv3, rfl⟩ := own_form HO3.out; obtain rfl : n = nv3 := by (have := (sl_parts HO3.out.sl).1.1; have := HLN.out; omega))
          go_wp2
          go_ret
          exact ⟨⟨_, rfl, by rw [HS.out]; exact HO3.out.sl⟩, Ext.trans HXA.out HX3.out⟩
end Go.Proofs.Ytifbmkcfgpfefaa.Wi
