/- Jobs: in order they are a queue, whichever way they stood. -/
import Derived.Test.YtlbpgaoindkgbaaMeL
namespace Go.Proofs.Ytlbpgaoindkgbaa.Me
open Go.RowKit Go.Proofs.Ytlbpgaoindkgbaa Go.Sort
set_option linter.unusedVariables false

def Dist (M : List Jb) : Prop := M.Pairwise (fun a b => ¬ (a.i = b.i ∧ a.t = b.t))
theorem pick_go : ∀ (M S : List Jb), AllMay M → Dist (S ++ M) → M.foldl pickS S = S ++ M
  | [], S, _, _ => by simp
  | x :: M, S, h, hd => by
    have hx : pickS S x = S ++ [x] := by
      unfold pickS
      rw [if_pos (h x (by simp)), if_neg ?_]
      intro e
      have e2 := of_decide_eq_true e
      obtain ⟨y, hy, h1⟩ := e2
      have := (List.pairwise_append.1 hd).2.2 y hy x (by simp)
      exact this h1
    rw [List.foldl_cons, hx, pick_go M (S ++ [x]) (fun a ha => h a (by simp [ha])) (by rw [List.append_assoc]; exact hd)]
    simp
theorem pick_id {M : List Jb} (h : AllMay M) (hd : Dist M) : pickL M = M := by
  have := pick_go M [] h hd
  simpa [pickL] using this
theorem ord_again {l M : List Jb} (h : M.Perm (ordL l)) : ordL M = ordL l := by
  have h1 : AllMay M := fun a ha => pick_may l a (ord_mem.1 (h.mem_iff.1 ha))
  have h2 : Dist M := (List.Perm.pairwise_iff (fun {x y} h e => h ⟨e.1.symm, e.2.symm⟩) h).2 ((ord_pair l).imp fun h => h.2)
  exact (ord_is (l := M) (L := ordL l) (by rw [pick_id h1 h2]; exact h.symm) (ordS_sorted _)).symm
theorem step_ended : ∀ (L : List Jb) (r : Int), ∀ x ∈ (stepL L r).2, x.l = 0
  | [], r, x, h => by simp [stepL] at h
  | y :: m, r, x, h => by
    by_cases hc : r < y.l
    · have e : stepL (y :: m) r = (setl y (y.l - r) :: m, []) := by show (if r < y.l then _ else _) = _; rw [if_pos hc]
      rw [e] at h
      simp at h
    · have e : stepL (y :: m) r = ((stepL m (r - y.l)).1, setl y 0 :: (stepL m (r - y.l)).2) := by show (if r < y.l then _ else _) = _; rw [if_neg hc]
      rw [e] at h
      rcases List.mem_cons.1 h with rfl | h
      · rfl
      · exact step_ended m _ x h
theorem rev_snoc (L : List Jb) (k : Nat) (x : Jb) (hk : k < L.length) (h : L[L.length - 1 - k]? = some x) : L.reverse.take (k + 1) = L.reverse.take k ++ [x] := by
  rw [List.take_add_one, List.getElem?_reverse hk, h]; rfl
def BackR (w0 : World) (L : List Jb) (n : Nat) (v i : Value) (wr : World) : Prop := ∃ k : Nat, k ≤ n ∧ i = .int .i64 ((n : Int) - 1 - (k : Int)) ∧ LJb.Own wr w0.heap.size 33 v (L.reverse.take k) ∧ Ext w0 wr
def CntM (w0 : World) (n : Nat) (i : Value) (wr : World) : Prop := ∃ t : Nat, i = .int .i64 t ∧ t ≤ n ∧ Ext w0 wr
set_option maxRecDepth 100000 in
set_option maxHeartbeats 4000000 in
theorem queue_walk {u : Value} {l : List Jb} {bud : Int} {w : World} (hu : LJb.Sl w u l) (hb : (Lit.int .i64 bud).wf = true) : Calls Try.prog 4 #[u, .int .i64 bud] w fun e w' => e = .returned (.bool true) ∧ Ext w w' := by
  obtain ⟨i0, hi0, hzi0, hzi1, hzi2⟩ := info_parts info_job
  obtain ⟨R, hR⟩ : ∃ R, R = max bud 0 := ⟨_, rfl⟩
  have HR := Lib.hid hR
  have HWB := Lib.hid hb
  have HX := Lib.hid hu
  obtain ⟨p0, n0, c0, rfl, hl0, _, _, _⟩ := hu
  have HN0 : Hid (l.length = n0) := Lib.hid hl0.1
  have hz : Ext w w := Ext.refl _
  clear hl0 hb hR
  go_enter Try.func4, Try.ntmps4
  go_wp2_with fail
  refine (head_v _).mono ?_
  rintro e w1 ⟨rfl, hx9⟩
  replace HX := Lib.hid (HX.out.ext hx9)
  replace hz := Ext.trans hz hx9
  clear hx9
  go_wp2_with fail
  refine (few_any _ l _ HX.out).mono ?_
  rintro e w2 ⟨⟨v1, rfl, hs⟩, hx9⟩
  replace HX := Lib.hid (HX.out.ext hx9)
  replace hz := Ext.trans hz hx9
  clear hx9
  have HF := Lib.hid hs
  clear hs
  go_wp2_with fail
  refine (order_sl _ _ _ HF.out (by simp; omega)).mono ?_
  rintro e w3 ⟨⟨v2, rfl, hs⟩, hx9⟩
  replace HX := Lib.hid (HX.out.ext hx9)
  replace HF := Lib.hid (HF.out.ext hx9)
  replace hz := Ext.trans hz hx9
  clear hx9
  obtain ⟨L, hL⟩ : ∃ L, ordL (l.take 40) = L := ⟨_, rfl⟩
  have HQ : Hid (QOk L) := Lib.hid (by rw [← hL]; exact qok_ord _)
  have HN : Hid (L.length ≤ 40) := Lib.hid (by rw [← hL]; exact ord40 l)
  have HAG : Hid (∀ M : List Jb, M.Perm L → ordL M = L) := Lib.hid (fun M h => by rw [← hL] at h ⊢; exact ord_again h)
  have HLE : Hid (L.length ≤ l.length) := Lib.hid (by rw [← hL]; have := ord_le (l.take 40); simp at this; omega)
  rw [hL] at hs
  have HL := Lib.hid hs
  clear hs hL
  have HZ := Lib.hid hz
  clear hz
  have HL1 := HL
  obtain ⟨pl, nl, cl, rfl, hrl, hncl, hcml, hpll⟩ := HL1.out
  have HRL := Lib.hid hrl
  have HNL : Hid (L.length = nl) := Lib.hid hrl.1
  have hnl40 : nl ≤ 40 := by rw [← HNL.out]; exact HN.out
  clear hrl HL1 hpll
  go_wp2
  go_loopw [7, 8] (fun v i wr => BackR w3 L nl v i wr) (fun _ i _ => (intOf i + 1).toNat)
  case atStart => exact ⟨0, by omega, by simp, plain_jb.own_lit w3 #[] _ w3.heap.size 0 [] (Nat.le_refl _) rfl rfl (by decide), Ext.alloc _ _⟩
  case round =>
    obtain ⟨k, hk, rfl, hown, hx⟩ := hrel
    have HO := Lib.hid hown
    have HXR := Lib.hid hx
    clear hown hx
    by_cases hlt : k < nl
    · obtain ⟨m, hm⟩ : ∃ m, nl - 1 - k = m := ⟨_, rfl⟩
      have hmi : (nl : Int) - 1 - (k : Int) = (m : Int) := by omega
      rw [hmi]
      obtain ⟨x, gx⟩ := get_of L m (by rw [HNL.out]; omega)
      obtain ⟨b, off, rfl, hw, c0, c1, c2, c3, c4, c5⟩ := jb_at (HRL.out.ext HXR.out) gx
      have HW := Lib.hid hw
      have HTK : Hid (L.reverse.take (k + 1) = L.reverse.take k ++ [x]) := Lib.hid (rev_snoc L k x (by rw [HNL.out]; exact hlt) (by rw [HNL.out, hm]; exact gx))
      have hm0 : (0 : Int) ≤ (m : Int) := by omega
      have hm1 : (m : Int) < (nl : Int) := by omega
      have HMI := Lib.hid hmi
      have HRV : Hid ((L.reverse.take k).length ≤ 40) := Lib.hid (by simp; have := HN.out; omega)
      clear gx hw hmi hm
      go_wp2_with (at_builtin; refine Lay.wpList_append (E := LJb) rfl (.tmp 24) (.tmp 29) 22 rfl w3.heap.size 33 i0 (.agg #[.int .i64 0, .int .i64 0, .int .i64 0, .int .i64 0, .int .i64 0, .int .i64 0]) 48 Try.underlying22 hi0 hzi0 hzi1 hzi2 rfl _ (L.reverse.take k) rfl (HO.out.ext (Ext.alloc _ _)) (some ⟨wr.heap.size, 0, none⟩) 1 1 ([x]) rfl (fun _ => ⟨_, _, rfl⟩) (Nat.le_refl _) (plain_jb.lit (Ext.refl _) (Lay.All.single ⟨rfl, HW.out⟩) rfl rfl (by decide)) (by have := HRV.out; unfold maxLen; omega) (by have := HRV.out; omega) (by have := HXR.out.size; simp; omega) ?_; intro vv ww hown2 hg2)
      have X2 := Lib.hid (HO.out.below HXR.out (Nat.le_refl _) (grown_of (Ext.alloc _ _) hg2))
      have HO2 := Lib.hid hown2
      clear hown2 hg2
      go_roundw
      case rel => exact ⟨k + 1, by omega, by have := HMI.out; congr 1; omega, by rw [HTK.out]; exact HO2.out, X2.out⟩
      case measure => simp [intOf] <;> omega
    · obtain rfl : k = nl := by omega
      have hm1 : (k : Int) - 1 - (k : Int) = -1 := by omega
      rw [hm1]
      have HB : Hid (LJb.Sl wr u7 L.reverse) := Lib.hid (by have := HO.out.sl; rwa [List.take_of_length_le (by rw [List.length_reverse, HNL.out]; omega)] at this)
      replace HX := Lib.hid (HX.out.ext HXR.out)
      replace HL := Lib.hid (HL.out.ext HXR.out)
      have hz : Ext w wr := Ext.trans HZ.out HXR.out
      clear HO HF HRL HXR HZ
      go_wp2_with fail
      refine (step_v _ L bud R _ HL.out HQ.out.small (by have := HN.out; omega) HWB.out HR.out).mono ?_
      rintro e w4 ⟨⟨v3, v4, rfl, hs, hs2⟩, hx9⟩
      replace HX := Lib.hid (HX.out.ext hx9)
      replace HL := Lib.hid (HL.out.ext hx9)
      replace HB := Lib.hid (HB.out.ext hx9)
      replace hz := Ext.trans hz hx9
      clear hx9
      have HA := Lib.hid hs
      have HE := Lib.hid hs2
      clear hs hs2
      have HQ1 : Hid (QOk (stepL L R).1) := Lib.hid (qok_step HQ.out (by have := HR.out; omega))
      have HSL := Lib.hid (step_len L R)
      have HE1 := HE
      obtain ⟨pe, ne, ce, rfl, hre, _, _, _⟩ := HE1.out
      have HA1 := HA
      obtain ⟨pa, na, ca, rfl, hra, _, _, _⟩ := HA1.out
      have HRE := Lib.hid hre
      have hne : ne ≤ 40 := by have := HSL.out; have := hre.1; have := HN.out; omega
      have HNA : Hid ((stepL L R).1.length = na) := Lib.hid hra.1
      have HNE : Hid ((stepL L R).2.length = ne) := Lib.hid hre.1
      have HZ := Lib.hid hz
      clear hre hra HE1 HA1 hz
      go_wp2
      go_loopw [11] (fun i wr => CntM w4 ne i wr) (fun i _ => ne - (intOf i).toNat)
      case atStart => exact ⟨0, rfl, by omega, Ext.refl _⟩
      case round =>
        obtain ⟨t, rfl, ht, hx⟩ := hrel
        by_cases hlt2 : t < ne
        · obtain ⟨y, gy⟩ := get_of (stepL L R).2 t (by rw [HNE.out]; exact hlt2)
          obtain ⟨b, off, rfl, _, y0, y1, y2, y3, y4, y5⟩ := jb_at (HRE.out.ext hx) gy
          have hy0 := step_ended L R y (List.mem_of_getElem? gy)
          rw [hy0] at y5
          have ht0 : (0 : Int) ≤ (t : Int) := by omega
          have ht1 : (t : Int) < (ne : Int) := by omega
          clear gy y0 y1 y2 y3 y4 hy0
          go_wp2
          go_roundw
          case rel => exact ⟨t + 1, by go_num, by omega, hx⟩
          case measure => simp [intOf]; omega
        · have hz : Ext w wr := Ext.trans HZ.out hx
          replace HX := Lib.hid (HX.out.ext hx)
          replace HL := Lib.hid (HL.out.ext hx)
          replace HB := Lib.hid (HB.out.ext hx)
          replace HA := Lib.hid (HA.out.ext hx)
          clear HE HRE hx HZ
          go_wp2_with fail
          refine (right_v _ _ _ HL.out (by have := HN.out; omega)).mono ?_
          rintro e w5 ⟨⟨b1, rfl, hb1⟩, hx9⟩
          replace HX := Lib.hid (HX.out.ext hx9)
          replace HL := Lib.hid (HL.out.ext hx9)
          replace HB := Lib.hid (HB.out.ext hx9)
          replace HA := Lib.hid (HA.out.ext hx9)
          replace hz := Ext.trans hz hx9
          clear hx9
          obtain rfl : b1 = true := hb1.2 HQ.out.right
          clear hb1
          go_wp2_with fail
          refine (order_sl _ _ _ HL.out (by have := HN.out; omega)).mono ?_
          rintro e w6 ⟨⟨v5, rfl, hs⟩, hx9⟩
          replace HX := Lib.hid (HX.out.ext hx9)
          replace HL := Lib.hid (HL.out.ext hx9)
          replace HB := Lib.hid (HB.out.ext hx9)
          replace HA := Lib.hid (HA.out.ext hx9)
          replace hz := Ext.trans hz hx9
          clear hx9
          rw [HAG.out L (List.Perm.refl _)] at hs
          have HO1 := Lib.hid hs
          clear hs
          go_wp2_with fail
          refine (same_v _ _ _ _ _ HO1.out HL.out).mono ?_
          rintro e w7 ⟨rfl, hx9⟩
          replace HX := Lib.hid (HX.out.ext hx9)
          replace HL := Lib.hid (HL.out.ext hx9)
          replace HB := Lib.hid (HB.out.ext hx9)
          replace HA := Lib.hid (HA.out.ext hx9)
          replace HO1 := Lib.hid (HO1.out.ext hx9)
          replace hz := Ext.trans hz hx9
          clear hx9
          rw [decide_eq_true rfl]
          go_wp2_with fail
          refine (order_sl _ _ _ HB.out (by rw [List.length_reverse]; have := HN.out; omega)).mono ?_
          rintro e w8 ⟨⟨v6, rfl, hs⟩, hx9⟩
          replace HX := Lib.hid (HX.out.ext hx9)
          replace HL := Lib.hid (HL.out.ext hx9)
          replace HB := Lib.hid (HB.out.ext hx9)
          replace HA := Lib.hid (HA.out.ext hx9)
          replace HO1 := Lib.hid (HO1.out.ext hx9)
          replace hz := Ext.trans hz hx9
          clear hx9
          rw [HAG.out L.reverse (List.reverse_perm _)] at hs
          have HO2 := Lib.hid hs
          clear hs
          go_wp2_with fail
          refine (same_v _ _ _ _ _ HO2.out HL.out).mono ?_
          rintro e w9 ⟨rfl, hx9⟩
          replace HX := Lib.hid (HX.out.ext hx9)
          replace HL := Lib.hid (HL.out.ext hx9)
          replace HB := Lib.hid (HB.out.ext hx9)
          replace HA := Lib.hid (HA.out.ext hx9)
          replace HO1 := Lib.hid (HO1.out.ext hx9)
          replace HO2 := Lib.hid (HO2.out.ext hx9)
          replace hz := Ext.trans hz hx9
          clear hx9
          rw [decide_eq_true rfl]
          go_wp2_with fail
          refine (right_v _ _ _ HA.out (by have := HNA.out; have := HSL.out; have := HN.out; omega)).mono ?_
          rintro e w10 ⟨⟨b2, rfl, hb2⟩, hx9⟩
          replace HX := Lib.hid (HX.out.ext hx9)
          replace HL := Lib.hid (HL.out.ext hx9)
          replace HB := Lib.hid (HB.out.ext hx9)
          replace HA := Lib.hid (HA.out.ext hx9)
          replace HO1 := Lib.hid (HO1.out.ext hx9)
          replace HO2 := Lib.hid (HO2.out.ext hx9)
          replace hz := Ext.trans hz hx9
          clear hx9
          obtain rfl : b2 = true := hb2.2 HQ1.out.right
          clear hb2
          have hk2 : k = na + ne := by have h1 := HSL.out; have h2 := HNA.out; have h3 := HNE.out; have h4 := HNL.out; omega
          have HK3 : Hid (k ≤ n0) := Lib.hid (by have h1 := HLE.out; have h4 := HNL.out; have h5 := HN0.out; omega)
          subst hk2
          have hs2 : ((na : Int) + (ne : Int)) ≤ (n0 : Int) := by have := HK3.out; omega
          have hs3 : decide (na + ne ≤ n0) = true := decide_eq_true HK3.out
          have hs4 : decide (((na : Int) + (ne : Int)) ≤ (n0 : Int)) = true := decide_eq_true hs2
          clear hs2
          go_wp2
          go_ret
          exact ⟨rfl, hz⟩
end Go.Proofs.Ytlbpgaoindkgbaa.Me
