/- Jobs: few, and in order (the reference). -/
import Derived.Test.YtlbpgaoindkgbaaMeE
import Derived.Lib.MinMax
namespace Go.Proofs.Ytlbpgaoindkgbaa.Me
open Go.RowKit Go.Proofs.Ytlbpgaoindkgbaa Go.Sort
set_option linter.unusedVariables false

theorem info_size : (Try.prog.info? 33).map (·.size) = some LJb.size := by kernel_rfl
set_option maxRecDepth 100000 in
set_option maxHeartbeats 4000000 in
theorem few_any (u : Value) (l : List Jb) (w : World) (hu : LJb.Sl w u l) : Calls Try.prog 10 #[u] w (RetJ (l.take 40) w) := by
  obtain ⟨i0, hi0, hzi0, hzi1, hzi2⟩ := info_parts info_job
  obtain ⟨p, n, c, rfl, hl, hnc, hcm, hpl⟩ := hu
  have HP := Lib.hid hl
  have HPL := Lib.hid hpl
  have hn := hl.2.1
  obtain ⟨m, hm⟩ : ∃ m, min n 40 = m := ⟨_, rfl⟩
  have HM : Hid (l.take 40 = l.take m) := Lib.hid (by rw [← hm, ← hl.1]; simp [Nat.min_comm, List.take_eq_take_iff])
  clear hl hpl
  have h40 : m ≤ 40 := by omega
  have hmn : m ≤ n := by omega
  have hmin : (if (n : Int) ≤ 40 then (n : Int) else 40) = (m : Int) := by split <;> omega
  have hmin2 : (if (n : Int) < 40 then (n : Int) else 40) = (m : Int) := by split <;> omega
  have hmin3 : min (n : Int) 40 = (m : Int) := by omega
  have slt : ∀ w, (Instr.slice 22 (.slice p n c) none (some (.int .i64 (m : Int))) none).run Try.prog w = .ok (.slice p m c) w := fun w => run_cut_to Try.underlying22 info_size _ _ _ _ _ rfl (by omega) HPL.out w
  go_enter Try.func10, Try.ntmps10
  go_wp2_with (at_builtin; refine Lay.wpList_append (E := LJb) rfl (.tmp 3) (.tmp 8) 22 rfl w.heap.size 33 i0 (.agg #[.int .i64 0, .int .i64 0, .int .i64 0, .int .i64 0, .int .i64 0, .int .i64 0]) 48 Try.underlying22 hi0 hzi0 hzi1 hzi2 rfl _ ([]) rfl (plain_jb.own_lit w #[] _ w.heap.size 0 [] (Nat.le_refl _) rfl rfl (by decide)) p m c (l.take m) rfl HPL.out (by omega) ((HP.out.pre m hmn).keep (Ext.alloc _ _) (by intro k hk; cases hk; exact Nat.le_refl _)) (by unfold maxLen; simp; omega) (by simp; omega) (by simp) ?_; intro v2 w3 hown2 hg2)
  have X3 := Lib.hid ((plain_jb.own_lit w #[] 33 w.heap.size 0 [] (Nat.le_refl _) rfl rfl (by decide)).below (Ext.alloc _ _) (Nat.le_refl _) hg2)
  have HO := Lib.hid hown2
  clear hown2 hg2
  go_wp2
  go_ret
  rw [HM.out]
  exact ⟨⟨_, rfl, HO.out.sl⟩, X3.out⟩
theorem ins_at : ∀ (L : List Jb) (x : Jb) (K : Nat), (∀ (j : Nat) (z : Jb), j < K → L[j]? = some z → aheadB z x = true) → (∀ z : Jb, L[K]? = some z → aheadB z x = false) → K ≤ L.length → insL x L = L.take K ++ x :: L.drop K
  | [], x, K, _, _, h => by
    obtain rfl : K = 0 := by simpa using h
    rfl
  | y :: m, x, 0, _, h, _ => by
    have h0 := h y rfl
    unfold insL
    rw [if_neg (by rw [h0]; exact Bool.false_ne_true)]
    rfl
  | y :: m, x, K + 1, h1, h2, h3 => by
    have h0 := h1 0 y (by omega) rfl
    unfold insL
    rw [if_pos h0, ins_at m x K (fun j z hj hz => h1 (j + 1) z (by omega) hz) (fun z hz => h2 z hz) (by simpa using h3)]
    rfl
theorem ordS_snoc (S : List Jb) (x : Jb) : ordS (S ++ [x]) = insL x (ordS S) := by unfold ordS; rw [List.foldl_append]; rfl
theorem seen_perm {S L : List Jb} (h : L.Perm S) (x : Jb) : seenB L x = seenB S x := by
  unfold seenB
  rw [Bool.eq_iff_iff, decide_eq_true_iff, decide_eq_true_iff]
  exact ⟨fun ⟨y, hy, e⟩ => ⟨y, h.mem_iff.1 hy, e⟩, fun ⟨y, hy, e⟩ => ⟨y, h.mem_iff.2 hy, e⟩⟩
def ROrdR (w : World) (l : List Jb) (n : Nat) (v i : Value) (wr : World) : Prop := ∃ (k : Nat) (S : List Jb), k ≤ n ∧ i = .int .i64 k ∧ Hid (pickL (l.take k) = S) ∧ LJb.Own wr w.heap.size 33 v (ordS S) ∧ Ext w wr
def RPosR (w1 : World) (L : List Jb) (x : Jb) (N : Nat) (ix : Value) (wr2 : World) : Prop := ∃ K : Nat, ix = .int .i64 K ∧ K ≤ N ∧ Hid (∀ (j : Nat) (z : Jb), j < K → L[j]? = some z → aheadB z x = true) ∧ Ext w1 wr2
set_option maxRecDepth 100000 in
set_option maxHeartbeats 4000000 in
theorem rorder_v (u : Value) (l : List Jb) (w : World) (hu : LJb.Sl w u l) (hn : l.length ≤ 1000) : Calls Try.prog 11 #[u] w (RetJ (ordL l) w) := by
  obtain ⟨i0, hi0, hzi0, hzi1, hzi2⟩ := info_parts info_job
  obtain ⟨p, n, c, rfl, hl, _, _, _⟩ := hu
  have HP := Lib.hid hl
  have hn63 := hl.2.1
  have HN : Hid (n ≤ 1000) := Lib.hid (by rw [← hl.1]; exact hn)
  clear hl hn
  go_enter Try.func11, Try.ntmps11
  go_wp2
  go_loopw [3, 4, 5, 6] (fun v ix _ _ wr => ROrdR w l n v ix wr) (fun _ ix _ _ _ => n - (intOf ix).toNat)
  case atStart => exact ⟨0, [], by omega, rfl, Lib.hid rfl, plain_jb.own_lit w #[] _ w.heap.size 0 [] (Nat.le_refl _) rfl rfl (by decide), Ext.alloc _ _⟩
  case round =>
    obtain ⟨k, S, hk, rfl, hS, hown, hx⟩ := hrel
    have HO := Lib.hid hown
    have HX := Lib.hid hx
    have HSL : Hid (S.length ≤ k) := Lib.hid (by rw [← hS.out]; exact pick_len l k)
    clear hown hx
    by_cases hlt : k < n
    · obtain ⟨x, gx⟩ := get_of l k (by rw [HP.out.1]; exact hlt)
      obtain ⟨b, off, rfl, hw, c0, c1, c2, c3, c4, c5⟩ := jb_at (HP.out.ext HX.out) gx
      have HSN : Hid (pickL (l.take (k + 1)) = pickS S x) := Lib.hid (by rw [pick_snoc l k x gx, hS.out])
      have HW := Lib.hid hw
      have GX := Lib.hid gx
      have hlt' : (k : Int) < (n : Int) := by omega
      have hlt0 : (0 : Int) ≤ (k : Int) := by omega
      have HNN := HN
      clear gx hw
      go_wp2_with fail
      refine (rmay_any x _).mono ?_
      rintro e w1 ⟨rfl, hx1⟩
      replace c0 := hx1.cell c0; replace c1 := hx1.cell c1; replace c2 := hx1.cell c2; replace c3 := hx1.cell c3; replace c4 := hx1.cell c4; replace c5 := hx1.cell c5
      have HO1 := Lib.hid (HO.out.ext hx1)
      have HX1 := Lib.hid (Ext.trans HX.out hx1)
      clear hx1
      obtain ⟨g, hg⟩ : ∃ g, mayB x = g := ⟨_, rfl⟩
      have HG := Lib.hid hg
      rw [hg]
      clear hg
      cases g
      · have HSM : Hid (pickS S x = S) := Lib.hid (by unfold pickS; rw [if_neg (by rw [HG.out]; exact Bool.false_ne_true)])
        go_wp2
        go_roundw
        case rel => exact ⟨k + 1, S, by omega, by go_num, Lib.hid (by rw [HSN.out, HSM.out]), HO1.out, HX1.out⟩
        case measure => simp [intOf]; omega
      obtain ⟨po, co, rfl, hro, hnco, hcmo, hplo⟩ := HO1.out.opened
      have HRO := Lib.hid hro
      have HPLO := Lib.hid hplo
      clear hro hplo
      go_wp2_with fail
      refine (alike_any _ (ordS S) x _ HO1.out.sl).mono ?_
      rintro e w2 ⟨rfl, hx2⟩
      replace c0 := hx2.cell c0; replace c1 := hx2.cell c1; replace c2 := hx2.cell c2; replace c3 := hx2.cell c3; replace c4 := hx2.cell c4; replace c5 := hx2.cell c5
      have HO2 := Lib.hid (HO1.out.ext hx2)
      have HRO2 := Lib.hid (HRO.out.ext hx2)
      have HX2 := Lib.hid (Ext.trans HX1.out hx2)
      clear hx2
      obtain ⟨q, hq⟩ : ∃ q, idxI (ordS S) x.i x.t = q := ⟨_, rfl⟩
      have HQ : Hid (0 ≤ q ↔ seenB S x = true) := Lib.hid (by rw [← hq, idx_seen, seen_perm (ordS_perm S)])
      rw [hq]
      clear hq
      obtain ⟨no, hno⟩ : ∃ no, (ordS S).length = no := ⟨_, rfl⟩
      have HNO : Hid (no ≤ k) := Lib.hid (by rw [← hno, (ordS_perm S).length_eq]; exact HSL.out)
      have HNO1 := Lib.hid hno
      rw [hno] at hnco HRO2 HO2 ⊢
      clear hno
      by_cases hq0 : 0 ≤ q
      · have HSM : Hid (pickS S x = S) := Lib.hid (by unfold pickS; rw [if_pos HG.out, if_pos (HQ.out.1 hq0)])
        go_wp2
        go_roundw
        case rel => exact ⟨k + 1, S, by omega, by go_num, Lib.hid (by rw [HSN.out, HSM.out]), HO2.out, HX2.out⟩
        case measure => simp [intOf]; omega
      have HSM : Hid (pickS S x = S ++ [x]) := Lib.hid (by unfold pickS; rw [if_pos HG.out, if_neg (fun h => hq0 (HQ.out.2 h))])
      have HC := Lib.hid (And.intro c0 (And.intro c1 (And.intro c2 (And.intro c3 (And.intro c4 c5)))))
      clear c0 c1 c2 c3 c4 c5
      go_wp2
      go_loopw [5] (fun ix wr2 => RPosR w2 (ordS S) x no ix wr2) (fun ix _ => no - (intOf ix).toNat)
      case atStart => exact ⟨0, rfl, by omega, Lib.hid (by intro j z hj; omega), Ext.refl _⟩
      case round =>
        obtain ⟨K, rfl, hK, HE, hx2⟩ := hrel
        have HC2 : Hid (∀ w', Ext w2 w' → w'.cell? ⟨b, off + k * 6, none⟩ = some (.int .i64 x.i) ∧ w'.cell? ⟨b, off + k * 6 + 1, none⟩ = some (.int .i64 x.v) ∧ w'.cell? ⟨b, off + k * 6 + 2, none⟩ = some (.int .i64 x.f) ∧ w'.cell? ⟨b, off + k * 6 + 3, none⟩ = some (.int .i64 x.t) ∧ w'.cell? ⟨b, off + k * 6 + 4, none⟩ = some (.int .i64 x.h) ∧ w'.cell? ⟨b, off + k * 6 + 5, none⟩ = some (.int .i64 x.l)) := Lib.hid (fun w' h => ⟨h.cell HC.out.1, h.cell HC.out.2.1, h.cell HC.out.2.2.1, h.cell HC.out.2.2.2.1, h.cell HC.out.2.2.2.2.1, h.cell HC.out.2.2.2.2.2⟩)
        by_cases hKn : K < no
        · have hKn' : (K : Int) < (no : Int) := by omega
          have hK0 : (0 : Int) ≤ (K : Int) := by omega
          obtain ⟨y, gy⟩ := get_of (ordS S) K (by rw [HNO1.out]; exact hKn)
          obtain ⟨bo, oo, rfl, _, y0, y1, y2, y3, y4, y5⟩ := jb_at HRO2.out gy
          have GY := Lib.hid gy
          have HSS : Hid (∀ w', Ext w2 w' → (w'.cell? ⟨bo, oo + K * 6, none⟩ = some (.int .i64 y.i) ∧ w'.cell? ⟨bo, oo + K * 6 + 1, none⟩ = some (.int .i64 y.v) ∧ w'.cell? ⟨bo, oo + K * 6 + 2, none⟩ = some (.int .i64 y.f) ∧ w'.cell? ⟨bo, oo + K * 6 + 3, none⟩ = some (.int .i64 y.t) ∧ w'.cell? ⟨bo, oo + K * 6 + 4, none⟩ = some (.int .i64 y.h) ∧ w'.cell? ⟨bo, oo + K * 6 + 5, none⟩ = some (.int .i64 y.l)) ∧ (w'.cell? ⟨b, off + k * 6, none⟩ = some (.int .i64 x.i) ∧ w'.cell? ⟨b, off + k * 6 + 1, none⟩ = some (.int .i64 x.v) ∧ w'.cell? ⟨b, off + k * 6 + 2, none⟩ = some (.int .i64 x.f) ∧ w'.cell? ⟨b, off + k * 6 + 3, none⟩ = some (.int .i64 x.t) ∧ w'.cell? ⟨b, off + k * 6 + 4, none⟩ = some (.int .i64 x.h) ∧ w'.cell? ⟨b, off + k * 6 + 5, none⟩ = some (.int .i64 x.l))) := Lib.hid (fun w' h => ⟨⟨h.cell y0, h.cell y1, h.cell y2, h.cell y3, h.cell y4, h.cell y5⟩, HC2.out w' h⟩)
          clear gy y0 y1 y2 y3 y4 y5
          go_wp2
          have hxx : Ext w2 wr.drew := Ext.trans hx2 (Ext.drew (Ext.refl _))
          go_region_held3 (fun w' => (w'.cell? ⟨bo, oo + K * 6, none⟩ = some (.int .i64 y.i) ∧ w'.cell? ⟨bo, oo + K * 6 + 1, none⟩ = some (.int .i64 y.v) ∧ w'.cell? ⟨bo, oo + K * 6 + 2, none⟩ = some (.int .i64 y.f) ∧ w'.cell? ⟨bo, oo + K * 6 + 3, none⟩ = some (.int .i64 y.t) ∧ w'.cell? ⟨bo, oo + K * 6 + 4, none⟩ = some (.int .i64 y.h) ∧ w'.cell? ⟨bo, oo + K * 6 + 5, none⟩ = some (.int .i64 y.l)) ∧ (w'.cell? ⟨b, off + k * 6, none⟩ = some (.int .i64 x.i) ∧ w'.cell? ⟨b, off + k * 6 + 1, none⟩ = some (.int .i64 x.v) ∧ w'.cell? ⟨b, off + k * 6 + 2, none⟩ = some (.int .i64 x.f) ∧ w'.cell? ⟨b, off + k * 6 + 3, none⟩ = some (.int .i64 x.t) ∧ w'.cell? ⟨b, off + k * 6 + 4, none⟩ = some (.int .i64 x.h) ∧ w'.cell? ⟨b, off + k * 6 + 5, none⟩ = some (.int .i64 x.l))) ((refine HSS.out _ ?_; first | (with_reducible exact hxx))) ((go_at_call 26; refine (ahead_any y x _).mono ?_; rintro e w4 ⟨rfl, hx9⟩; replace hxx := Ext.trans hxx hx9; clear hx9))
          obtain ⟨g2, hg2⟩ : ∃ g2, aheadB y x = g2 := ⟨_, rfl⟩
          have HG2 := Lib.hid hg2
          rw [hg2]
          clear hg2
          cases g2
          · have HE2 : Hid (∀ z : Jb, (ordS S)[K]? = some z → aheadB z x = false) := Lib.hid (fun z hz => by rw [GY.out] at hz; injection hz with hz; subst hz; exact HG2.out)
            clear HSS
            have HXW := Lib.hid hxx
            have HOW := Lib.hid (HRO2.out.ext hxx)
            have HIN : Hid (ordS (S ++ [x]) = [] ++ (ordS S).take K ++ [x] ++ (ordS S).drop K) := Lib.hid (by rw [ordS_snoc, ins_at (ordS S) x K HE.out HE2.out (by rw [HNO1.out]; exact hK)]; simp)
            have slt : ∀ w, (Instr.slice 22 (.slice (some ⟨bo, oo, none⟩) no co) none (some (.int .i64 (K : Int))) none).run Try.prog w = .ok (.slice (some ⟨bo, oo, none⟩) K co) w := fun w => run_cut_to Try.underlying22 info_size _ _ _ _ _ rfl (by omega) HPLO.out w
            have slf : ∀ w, (Instr.slice 22 (.slice (some ⟨bo, oo, none⟩) no co) (some (.int .i64 (K : Int))) none none).run Try.prog w = .ok (.slice (cutP (some ⟨bo, oo, none⟩) co K LJb.size) (no - K) (co - K)) w := fun w => run_cut_from Try.underlying22 info_size _ _ _ _ _ rfl hK hnco w
            go_wp2_with (first | (at_builtin; refine Lay.wpList_append (E := LJb) rfl (.tmp 46) (.tmp 49) 22 rfl w4.heap.size 33 i0 (.agg #[.int .i64 0, .int .i64 0, .int .i64 0, .int .i64 0, .int .i64 0, .int .i64 0]) 48 Try.underlying22 hi0 hzi0 hzi1 hzi2 rfl _ ([]) rfl ((plain_jb.own_lit w4 #[] 33 w4.heap.size 0 [] (Nat.le_refl _) rfl rfl (by decide))) (some ⟨bo, oo, none⟩) K co (((ordS S).take K)) rfl HPLO.out (by omega) ((HOW.out.pre K (by omega)).keep (Ext.alloc _ _) (by intro k hk; cases hk; exact Nat.le_refl _)) (by have := HNO1.out; have := HNO.out; have := HN.out; unfold maxLen; simp; omega) (by have := HNO1.out; have := HNO.out; have := HN.out; simp; omega) (by simp) ?_; intro v5 w5 hown5 hg5; (have X5 := Lib.hid ((plain_jb.own_lit w4 #[] 33 w4.heap.size 0 [] (Nat.le_refl _) rfl rfl (by decide)).below (Ext.alloc w4 _) (Nat.le_refl _) hg5)); (have HO5 := Lib.hid hown5); (obtain ⟨c0, c1, c2, c3, c4, c5⟩ := HC2.out _ (Ext.trans HXW.out X5.out)); clear hown5 hg5) | (at_builtin; refine Lay.wpList_append (E := LJb) rfl (.tmp 51) (.tmp 56) 22 rfl w4.heap.size 33 i0 (.agg #[.int .i64 0, .int .i64 0, .int .i64 0, .int .i64 0, .int .i64 0, .int .i64 0]) 48 Try.underlying22 hi0 hzi0 hzi1 hzi2 rfl _ ([] ++ (ordS S).take K) rfl (HO5.out.ext (Ext.alloc _ _)) (some ⟨w5.heap.size, 0, none⟩) 1 1 ([x]) rfl (fun _ => ⟨_, _, rfl⟩) (Nat.le_refl _) (plain_jb.lit (Ext.refl _) (Lay.All.single ⟨rfl, HW.out⟩) rfl rfl (by decide)) (by have := HNO1.out; have := HNO.out; have := HN.out; unfold maxLen; simp; omega) (by have := HNO1.out; have := HNO.out; have := HN.out; simp; omega) (by have := X5.out.size; simp; omega) ?_; intro v6 w6 hown6 hg6; (have X6 := Lib.hid (HO5.out.below X5.out (Nat.le_refl _) (grown_of (Ext.alloc _ _) hg6))); (have HO6 := Lib.hid hown6); clear hown6 hg6) | (at_builtin; refine Lay.wpList_append (E := LJb) rfl (.tmp 58) (.tmp 61) 22 rfl w4.heap.size 33 i0 (.agg #[.int .i64 0, .int .i64 0, .int .i64 0, .int .i64 0, .int .i64 0, .int .i64 0]) 48 Try.underlying22 hi0 hzi0 hzi1 hzi2 rfl _ ([] ++ (ordS S).take K ++ [x]) rfl (HO6.out) (cutP (some ⟨bo, oo, none⟩) co K LJb.size) (no - K) (co - K) (((ordS S).drop K)) rfl (HPLO.out.cut K LJb.size) (by omega) ((HOW.out.cut_from hnco HPLO.out K (by omega)).keep X6.out (by intro k hk; exact (HO6.out.lt k hk).1)) (by have := HNO1.out; have := HNO.out; have := HN.out; unfold maxLen; simp; omega) (by have := HNO1.out; have := HNO.out; have := HN.out; simp; omega) (by have := X6.out.size; omega) ?_; intro v7 w7 hown7 hg7; (have X7 := Lib.hid (HO6.out.below X6.out (Nat.le_refl _) hg7)); (have HO7 := Lib.hid hown7); clear hown7 hg7))
            go_roundw
            case rel => exact ⟨k + 1, S ++ [x], by omega, by go_num, Lib.hid (by rw [HSN.out, HSM.out]), by rw [HIN.out]; exact HO7.out.base (Ext.trans HX2.out HXW.out).size, Ext.trans (Ext.trans HX2.out HXW.out) X7.out⟩
            case measure => simp [intOf]; omega
          · go_wp2
            go_roundw
            case rel => exact ⟨K + 1, by go_num, by omega, Lib.hid (fun j z hj hz => by
              by_cases e : j = K
              · subst e; rw [GY.out] at hz; injection hz with hz; subst hz; exact HG2.out
              · exact HE.out j z (by omega) hz), hxx⟩
            case measure => simp [intOf]; omega
        · have HE2 : Hid (∀ z : Jb, (ordS S)[K]? = some z → aheadB z x = false) := Lib.hid (fun z hz => by have := (List.getElem?_eq_some_iff.1 hz).1; have := HNO1.out; omega)
          have hKn2 : ¬ (K : Int) < (no : Int) := by omega
          go_wp2
          go_quiet (fail)
          have hx3 := Ext.drewN hx2 nq
          generalize wr.drewN nq = w4 at hx3 ⊢
          have HXW := Lib.hid hx3
          have HOW := Lib.hid (HRO2.out.ext hx3)
          have HIN : Hid (ordS (S ++ [x]) = [] ++ (ordS S).take K ++ [x] ++ (ordS S).drop K) := Lib.hid (by rw [ordS_snoc, ins_at (ordS S) x K HE.out HE2.out (by rw [HNO1.out]; exact hK)]; simp)
          have slt : ∀ w, (Instr.slice 22 (.slice (po) no co) none (some (.int .i64 (K : Int))) none).run Try.prog w = .ok (.slice (po) K co) w := fun w => run_cut_to Try.underlying22 info_size _ _ _ _ _ rfl (by omega) HPLO.out w
          have slf : ∀ w, (Instr.slice 22 (.slice (po) no co) (some (.int .i64 (K : Int))) none none).run Try.prog w = .ok (.slice (cutP (po) co K LJb.size) (no - K) (co - K)) w := fun w => run_cut_from Try.underlying22 info_size _ _ _ _ _ rfl hK hnco w
          go_wp2_with (first | (at_builtin; refine Lay.wpList_append (E := LJb) rfl (.tmp 46) (.tmp 49) 22 rfl w4.heap.size 33 i0 (.agg #[.int .i64 0, .int .i64 0, .int .i64 0, .int .i64 0, .int .i64 0, .int .i64 0]) 48 Try.underlying22 hi0 hzi0 hzi1 hzi2 rfl _ ([]) rfl ((plain_jb.own_lit w4 #[] 33 w4.heap.size 0 [] (Nat.le_refl _) rfl rfl (by decide))) (po) K co (((ordS S).take K)) rfl HPLO.out (by omega) ((HOW.out.pre K (by omega)).keep (Ext.alloc _ _) (by intro k hk; cases hk; exact Nat.le_refl _)) (by have := HNO1.out; have := HNO.out; have := HN.out; unfold maxLen; simp; omega) (by have := HNO1.out; have := HNO.out; have := HN.out; simp; omega) (by simp) ?_; intro v5 w5 hown5 hg5; (have X5 := Lib.hid ((plain_jb.own_lit w4 #[] 33 w4.heap.size 0 [] (Nat.le_refl _) rfl rfl (by decide)).below (Ext.alloc w4 _) (Nat.le_refl _) hg5)); (have HO5 := Lib.hid hown5); (obtain ⟨c0, c1, c2, c3, c4, c5⟩ := HC2.out _ (Ext.trans HXW.out X5.out)); clear hown5 hg5) | (at_builtin; refine Lay.wpList_append (E := LJb) rfl (.tmp 51) (.tmp 56) 22 rfl w4.heap.size 33 i0 (.agg #[.int .i64 0, .int .i64 0, .int .i64 0, .int .i64 0, .int .i64 0, .int .i64 0]) 48 Try.underlying22 hi0 hzi0 hzi1 hzi2 rfl _ ([] ++ (ordS S).take K) rfl (HO5.out.ext (Ext.alloc _ _)) (some ⟨w5.heap.size, 0, none⟩) 1 1 ([x]) rfl (fun _ => ⟨_, _, rfl⟩) (Nat.le_refl _) (plain_jb.lit (Ext.refl _) (Lay.All.single ⟨rfl, HW.out⟩) rfl rfl (by decide)) (by have := HNO1.out; have := HNO.out; have := HN.out; unfold maxLen; simp; omega) (by have := HNO1.out; have := HNO.out; have := HN.out; simp; omega) (by have := X5.out.size; simp; omega) ?_; intro v6 w6 hown6 hg6; (have X6 := Lib.hid (HO5.out.below X5.out (Nat.le_refl _) (grown_of (Ext.alloc _ _) hg6))); (have HO6 := Lib.hid hown6); clear hown6 hg6) | (at_builtin; refine Lay.wpList_append (E := LJb) rfl (.tmp 58) (.tmp 61) 22 rfl w4.heap.size 33 i0 (.agg #[.int .i64 0, .int .i64 0, .int .i64 0, .int .i64 0, .int .i64 0, .int .i64 0]) 48 Try.underlying22 hi0 hzi0 hzi1 hzi2 rfl _ ([] ++ (ordS S).take K ++ [x]) rfl (HO6.out) (cutP (po) co K LJb.size) (no - K) (co - K) (((ordS S).drop K)) rfl (HPLO.out.cut K LJb.size) (by omega) ((HOW.out.cut_from hnco HPLO.out K (by omega)).keep X6.out (by intro k hk; exact (HO6.out.lt k hk).1)) (by have := HNO1.out; have := HNO.out; have := HN.out; unfold maxLen; simp; omega) (by have := HNO1.out; have := HNO.out; have := HN.out; simp; omega) (by have := X6.out.size; omega) ?_; intro v7 w7 hown7 hg7; (have X7 := Lib.hid (HO6.out.below X6.out (Nat.le_refl _) hg7)); (have HO7 := Lib.hid hown7); clear hown7 hg7))
          go_roundw
          case rel => exact ⟨k + 1, S ++ [x], by omega, by go_num, Lib.hid (by rw [HSN.out, HSM.out]), by rw [HIN.out]; exact HO7.out.base (Ext.trans HX2.out HXW.out).size, Ext.trans (Ext.trans HX2.out HXW.out) X7.out⟩
          case measure => simp [intOf]; omega
    · obtain rfl : k = n := by omega
      have HLL : Hid (S = pickL l) := Lib.hid (by rw [← hS.out, List.take_of_length_le (by rw [HP.out.1]; omega)])
      go_wp2
      go_ret
      refine ⟨⟨_, rfl, ?_⟩, HX.out⟩
      unfold ordL
      rw [← HLL.out]
      exact HO.out.sl
end Go.Proofs.Ytlbpgaoindkgbaa.Me
