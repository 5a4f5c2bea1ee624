/- Logs: the walk of LogLong. -/
import Derived.Test.YtppckbhbgohbiaaLogP
namespace Go.Proofs.Ytppckbhbgohbiaa.Lg
open Go.RowKit Go.Proofs.Ytppckbhbgohbiaa
set_option linter.unusedVariables false

def lenV : Value → Nat | .slice _ n _ => n | _ => 0
/-- an entry that came in, appended -/
theorem ent_old {w0 w1 : World} {row : Option Nat} {cs : List Value} {x : Ent} (h : LEnt.R w0 cs x) (hx : Ext w0 w1) (hr : ∀ k, row = some k → w0.heap.size ≤ k) : LEnt.AllK w1 row cs [x] :=
  fun w' hg => Lay.All.single (LEnt.ext h (grown_old' hx hr hg))
where
  grown_old' {w0 w w' : World} {row : Option Nat} (hx : Ext w0 w) (hr : ∀ k, row = some k → w0.heap.size ≤ k) (h : w.grownBy w' row) : Ext w0 w' := Lay.grown_old hx hr h
theorem putL_nil (l : List Ent) (a : Nat) : putL l a [] = l := by
  unfold putL agree
  cases l.drop a <;> rfl
theorem putL_end (l : List Ent) (a : Nat) (x : Ent) (h : l.length = a) : putL l a [x] = l ++ [x] := by
  unfold putL
  rw [List.drop_of_length_le (by omega)]
  have e : agree [] [x] = 0 := rfl
  rw [e, if_neg (by simp), Nat.add_zero, List.take_of_length_le (by omega)]
  rfl
theorem fits_end (l : List Ent) (a : Nat) (x : Ent) (h : l.length = a + 1) (hx : l[a]? = some x) : fitsB l (a + 1 : Nat) x.1 = true := by
  refine decide_eq_true ⟨by omega, by omega, ?_⟩
  rw [show ((a + 1 : Nat) : Int) = (a : Int) + 1 by omega, termOf_succ, List.getD_eq_getElem?_getD, hx]
  rfl

theorem put_over {p q : Option Addr} {n c m d : Nat} {l more : List Ent} {w : World} (hl : LEnt.Row w p n l) (hm : LEnt.Row w q m more) (hnc : n ≤ c) (hmd : m ≤ d) (hc : c ≤ 9223372036854775807) (hd : d ≤ 9223372036854775807) (hp : Pl p c) (hq : Pl q d)
    (hn : n ≤ 1000) (hm1 : m ≤ 1000) {A : Int} (a : Nat) (hA : A = a) (t : Int) (hf : fitsB l a t = true) (h5 : ¬ (putL l a more).length ≤ 500) :
    Calls Try.prog 12 #[.slice p n c, .int .i64 A, .int .i64 t, .slice q m d] w fun e w' => (∃ z s, e = .returned (.tuple #[.slice z 0 s, .bool false])) ∧ Ext w w' := by
  subst hA
  refine (put_fits p q n c m d l more w hl hm hnc hmd hc hd hp hq hn hm1 a t hf).mono fun e w' h => ?_
  obtain ⟨z, k', s, rfl, h, hx⟩ := h
  rw [decide_eq_false h5]
  rw [if_neg h5] at h
  subst h
  exact ⟨⟨z, s, rfl⟩, hx⟩

def LongR (w : World) (B : Nat) (l : List Ent) (x : Ent) (v : Value) (wr : World) : Prop :=
  ∃ k p n c, v = .slice p n c ∧ n = l.length + k ∧ n ≤ 500 ∧ LEnt.Own wr B 34 v (l ++ List.replicate k x) ∧ Ext w wr

set_option maxRecDepth 100000 in
set_option maxHeartbeats 4000000 in
theorem long_walk {p1 q : Option Addr} {n1 c1 m d : Nat} {l : List Ent} {x : Ent} {w : World} (h1 : LEnt.Row w p1 n1 l) (k1 : n1 ≤ c1) (m1 : c1 ≤ 9223372036854775807) (g1 : Pl p1 c1) (he : LEnt.R w [.int .i64 x.1, .slice q m d] x) :
    Calls Try.prog 4 #[.slice p1 n1 c1, .agg #[.int .i64 x.1, .slice q m d]] w fun e w' => e = .returned (.bool true) ∧ Ext w w' := by
  obtain ⟨i0, hi0, hz0, hz1, hz2⟩ := info_parts info_elem
  have H1 := Lib.hid h1
  have G1 := Lib.hid g1
  have HEn := Lib.hid he
  have HBX : Hid (∀ w', Ext (w.alloc (.cells #[.int .i64 x.1, .slice q m d] 34)) w' → w'.cell? ⟨w.heap.size, 0, none⟩ = some (.int .i64 x.1) ∧ w'.cell? ⟨w.heap.size, 1, none⟩ = some (.slice q m d)) := Lib.hid fun w' h => ⟨h.cell (cell_of_row _ _ 0 _ _ _ (heap_alloc_new w _)), h.cell (cell_of_row _ _ 1 _ _ _ (heap_alloc_new w _))⟩
  have hx : Ext (w.alloc (.cells #[.int .i64 x.1, .slice q m d] 34)) (w.alloc (.cells #[.int .i64 x.1, .slice q m d] 34)) := Ext.refl _
  have hw0 : Ext w (w.alloc (.cells #[.int .i64 x.1, .slice q m d] 34)) := Ext.alloc _ _
  clear h1 g1 he
  go_enter Try.func4, Try.ntmps4
  go_wp2_with fail
  refine (head_any _).mono ?_
  rintro e w1 ⟨rfl, hx1⟩
  replace hx := Ext.trans hx hx1
  clear hx1
  go_wp2_with fail
  refine (small_any _ _ _ _ _ (H1.out.ext (Ext.trans hw0 hx))).mono ?_
  rintro e w1 ⟨B, rfl, hb, hx1⟩
  replace hx := Ext.trans hx hx1
  clear hx1
  obtain ⟨bx0, bx1⟩ := HBX.out _ hx
  cases B
  · clear hb
    go_wp2
    go_ret
    exact ⟨rfl, Ext.trans hw0 hx⟩
  have hs1 : n1 ≤ 60 := by have := (hb.1 rfl).1; rw [H1.out.1] at this; exact this
  clear hb
  by_cases h40 : m ≤ 40
  · have h40' : decide ((40 : Int) < (m : Int)) = false := decide_eq_false (by omega)
    have HB0 : Hid ((w.alloc (.cells #[.int .i64 x.1, .slice q m d] 34)).heap.size = w.heap.size + 1) := Lib.hid (by simp)
    have HO0 : Hid (LEnt.Own (w1.alloc (.cells #[] 34)) (w.heap.size + 1) 34 (.slice (some ⟨w1.heap.size, 0, none⟩) 0 0) []) := Lib.hid (Lay.Own.made (E := LEnt) _ #[] 0 _ _ (by rw [← HB0.out]; exact hx.size) (by decide) rfl)
    have hx0 : Ext (w.alloc (.cells #[.int .i64 x.1, .slice q m d] 34)) (w1.alloc (.cells #[] 34)) := Ext.trans hx (Ext.alloc _ _)
    have HS0 : Hid (w.heap.size + 1 ≤ (w1.alloc (.cells #[] 34)).heap.size) := Lib.hid (by rw [← HB0.out]; exact hx0.size)
    have HL60 : Hid ((([] : List Ent).length + n1) ≤ 1000) := Lib.hid (by simp; omega)
    have HLN : Hid (l.length = n1) := H1.out.1
    go_wp2_with (at_builtin; refine Lay.wpList_append (E := LEnt) rfl (.tmp 24) (.tmp 25) 22 rfl (w.heap.size + 1) 34 i0 (.agg #[.int .i64 0, .slice none 0 0]) 32 Try.underlying22 hi0 hz0 hz1 hz2 rfl _ [] rfl HO0.out _ _ c1 l rfl G1.out k1 (H1.out.keep (Ext.trans hw0 hx0) fun k hk => Nat.le_of_succ_le (HO0.out.lt k hk).1) (by have := HL60.out; unfold maxLen; omega) (by have := HL60.out; omega) HS0.out ?_; intro v1 w2 hown1 hg1; have X1 := HO0.out.below hx0 (Nat.le_of_eq HB0.out) hg1; rw [List.nil_append] at hown1; obtain ⟨r1, n2, s1, rfl, hr1, hns1, hs1', hp1⟩ := hown1.sl; obtain rfl : n2 = n1 := by rw [← hr1.1, HLN.out])
    have HO1 := Lib.hid hown1
    clear hown1 hg1 hr1 hp1 hx0 HS0 HO0 HL60 bx0 bx1 hx
    go_loopw [6] (fun v wr => LongR (w.alloc (.cells #[.int .i64 x.1, .slice q m d] 34)) (w.heap.size + 1) l x v wr) (fun v _ => 500 - lenV v)
    case atStart => exact ⟨0, _, _, _, rfl, by rw [HLN.out]; rfl, by omega, by simpa using HO1.out, X1⟩
    case round =>
      obtain ⟨k, p, n, c, rfl, hn, hn5, hown, hx⟩ := hrel
      rw [HLN.out] at hn
      have HN := Lib.hid hn
      have HO := Lib.hid hown
      have hnc := hown.len.2.1
      have hcm := hown.len.2.2.1
      have HP := Lib.hid hown.len.2.2.2.1
      have HRW := Lib.hid hown.len.2.2.2.2
      obtain ⟨bx0, bx1⟩ := HBX.out _ hx
      clear hown hn HO1 X1
      by_cases hlt : n < 500
      · have hlt' : (n : Int) < 500 := by omega
        have X2 : Ext (w.alloc (.cells #[.int .i64 x.1, .slice q m d] 34)) (wr.alloc (.cells #[.int .i64 x.1, .slice q m d] 34)) := Ext.trans hx (Ext.alloc _ _)
        have HO2 := Lib.hid (HO.out.ext (Ext.alloc wr (.cells #[.int .i64 x.1, .slice q m d] 34)))
        have HRK : Hid (LEnt.RowK (wr.alloc (.cells #[.int .i64 x.1, .slice q m d] 34)) (Value.slice p n c).ownBlock (some ⟨wr.heap.size, 0, none⟩) 1 [x]) := Lib.hid (Lay.RowK.lit (Ext.refl _) (ent_old HEn.out (Ext.trans hw0 X2) (fun k hk => Nat.le_of_succ_le (HO.out.lt k hk).1)) rfl rfl (by omega))
        have HLL : Hid ((l ++ List.replicate k x).length = n) := Lib.hid (by simp [HLN.out, HN.out])
        have HS2 : Hid (w.heap.size + 1 ≤ (wr.alloc (.cells #[.int .i64 x.1, .slice q m d] 34)).heap.size) := Lib.hid (by rw [← HB0.out]; exact X2.size)
        have HRP : Hid (l ++ List.replicate (k + 1) x = (l ++ List.replicate k x) ++ [x]) := Lib.hid (by rw [List.replicate_succ', List.append_assoc])
        go_wp2_with (at_builtin; go_loud (refine Lay.wpList_append (E := LEnt) rfl (.tmp 30) (.tmp 32) 22 rfl (w.heap.size + 1) 34 i0 (.agg #[.int .i64 0, .slice none 0 0]) 32 Try.underlying22 hi0 hz0 hz1 hz2 rfl _ (l ++ List.replicate k x) rfl HO2.out _ _ _ [x] rfl (fun _ => ⟨_, _, rfl⟩) (by omega) HRK.out (by rw [HLL.out]; unfold maxLen; omega) (by rw [HLL.out]; omega) HS2.out ?_); intro v3 w3 hown3 hg3; have X3 := HO2.out.below X2 (Nat.le_of_eq HB0.out) hg3; rw [← HRP.out] at hown3)
        have HO3 := Lib.hid hown3
        clear hown3 hg3 HO2 HRK X2 bx0 bx1
        go_wp2
        obtain ⟨r4, n4, s4, rfl, hr4, _⟩ := HO3.out.sl
        have hn4 : n4 = n + 1 := by have := hr4.1; simp [HLN.out] at this; have := HN.out; omega
        go_roundw
        case rel => exact ⟨k + 1, r4, n4, s4, rfl, by rw [HLN.out, hn4, HN.out]; omega, by omega, HO3.out, X3⟩
        case measure => simp [lenV]; omega
      · obtain rfl : n = 500 := by omega
        have HFL : Hid ((l ++ List.replicate k x).length = 500) := Lib.hid (by simp [HLN.out, HN.out])
        generalize l ++ List.replicate k x = F at HFL HRW HO
        have HF0 : Hid (fitsB F 0 0 = true) := Lib.hid (decide_eq_true ⟨by omega, by omega, rfl⟩)
        have gy := ent_get (l := F) (j := 498) (by rw [HFL.out]; omega)
        have gz := ent_get (l := F) (j := 499) (by rw [HFL.out]; omega)
        generalize F.getD 498 (0, []) = y at gy
        generalize F.getD 499 (0, []) = z at gz
        have HF1 : Hid (fitsB (F.take 499) (499 : Nat) y.1 = true) := Lib.hid (fits_end (F.take 499) 498 y (by rw [List.length_take, HFL.out]; rfl) (by rw [List.getElem?_take, if_pos (by omega)]; exact gy))
        have HF2 : Hid (fitsB F (500 : Nat) z.1 = true) := Lib.hid (fits_end F 499 z (by rw [HFL.out]) gz)
        obtain ⟨b, off, _, _, _, rfl, y0, _⟩ := ent_at HRW.out gy
        obtain ⟨b', off', _, _, _, hpp, z0, _⟩ := ent_at HRW.out gz
        simp only [Option.some.injEq, Addr.mk.injEq, and_true] at hpp
        obtain ⟨rfl, rfl⟩ := hpp
        have HCY := Lib.hid y0
        have HCZ := Lib.hid z0
        clear gy gz y0 z0 hlt HO
        go_wp2_with fail
        refine (put_known (l := F) (more := []) (r := F) HRW.out (Lay.Row.nil _ _ _) hnc (by omega) hcm (by omega) HP.out (fun h => by omega) (by omega) (by omega) 0 rfl 0 500 HF0.out (putL_nil F 0) HFL.out (by omega)).mono ?_
        rintro e w1 ⟨⟨zA, sA, rfl, hA, kA, mA, gA⟩, hx1⟩
        have HA := Lib.hid hA
        have GA := Lib.hid gA
        replace HRW := Lib.hid (HRW.out.ext hx1)
        replace HCY := Lib.hid (hx1.cell HCY.out)
        replace HCZ := Lib.hid (hx1.cell HCZ.out)
        replace hx := Ext.trans hx hx1
        clear hA gA hx1 bx0 bx1
        have slt : ∀ w, (Instr.slice 22 (.slice (some ⟨b, off, none⟩) 500 c) none (some (.int .i64 499)) none).run Try.prog w = .ok (.slice (some ⟨b, off, none⟩) 499 c) w := fun w => run_cut_to Try.underlying22 info_size (some ⟨b, off, none⟩) 500 c 499 499 rfl (by omega) HP.out w
        have HS : Hid (∀ w', Ext w1 w' → w'.cell? ⟨b, off + 498 * 2, none⟩ = some (.int .i64 y.1) ∧ w'.cell? ⟨w.heap.size, 0, none⟩ = some (.int .i64 x.1) ∧ w'.cell? ⟨w.heap.size, 1, none⟩ = some (.slice q m d)) := Lib.hid fun w' h => ⟨h.cell HCY.out, (HBX.out _ (Ext.trans hx h)).1, (HBX.out _ (Ext.trans hx h)).2⟩
        have hxx : Ext w1 w1.drew := Ext.drew (Ext.refl _)
        have X4 : Ext w1 (w1.alloc (.cells #[.int .i64 x.1, .slice q m d] 34)).drew := Ext.drew (Ext.alloc _ _)
        have HM : Hid (LEnt.Row (w1.alloc (.cells #[.int .i64 x.1, .slice q m d] 34)).drew (some ⟨w1.heap.size, 0, none⟩) 1 [x]) := Lib.hid (Lay.Row.lit (Ext.drew (Ext.refl _)) (Lay.All.single (LEnt.ext HEn.out (Ext.trans (Ext.trans hw0 hx) X4))) rfl rfl (by omega))
        have HT : Hid (LEnt.Row w1 (some ⟨b, off, none⟩) 499 (F.take 499)) := Lib.hid (HRW.out.pre 499 (by omega))
        have HPE : Hid (putL (F.take 499) 499 [x] = F.take 499 ++ [x]) := Lib.hid (putL_end _ _ _ (by rw [List.length_take, HFL.out]; rfl))
        have HPL2 : Hid ((F.take 499 ++ [x]).length = 500) := Lib.hid (by rw [List.length_append, List.length_take, HFL.out]; rfl)
        go_wp2
        go_region_held3 (fun w' => w'.cell? ⟨b, off + 498 * 2, none⟩ = some (.int .i64 y.1) ∧ w'.cell? ⟨w.heap.size, 0, none⟩ = some (.int .i64 x.1) ∧ w'.cell? ⟨w.heap.size, 1, none⟩ = some (.slice q m d)) (first | exact HS.out _ hxx | exact HS.out _ X4) ((go_at_call 12; go_loud (refine (put_known (r := F.take 499 ++ [x]) (HT.out.ext X4) HM.out (show 499 ≤ c by omega) (Nat.le_refl 1) hcm (by omega) HP.out (fun _ => ⟨_, _, rfl⟩) (by omega) (by omega) 499 rfl y.1 500 HF1.out HPE.out HPL2.out (by omega)).mono ?_); rintro e w2 ⟨⟨zB, sB, rfl, hB, kB, mB, gB⟩, hx1⟩; replace hxx := Ext.trans X4 hx1; clear hx1))
        replace HA := Lib.hid (HA.out.ext hxx)
        replace HRW := Lib.hid (HRW.out.ext hxx)
        replace HCZ := Lib.hid (hxx.cell HCZ.out)
        replace hx := Ext.trans hx hxx
        clear hxx HS X4 HM HT HPE HPL2 hB gB HCY
        have HS : Hid (∀ w', Ext w2 w' → w'.cell? ⟨b, off + 499 * 2, none⟩ = some (.int .i64 z.1) ∧ w'.cell? ⟨w.heap.size, 0, none⟩ = some (.int .i64 x.1) ∧ w'.cell? ⟨w.heap.size, 1, none⟩ = some (.slice q m d)) := Lib.hid fun w' h => ⟨h.cell HCZ.out, (HBX.out _ (Ext.trans hx h)).1, (HBX.out _ (Ext.trans hx h)).2⟩
        have hxx : Ext w2 w2.drew := Ext.drew (Ext.refl _)
        have X4 : Ext w2 (w2.alloc (.cells #[.int .i64 x.1, .slice q m d] 34)).drew := Ext.drew (Ext.alloc _ _)
        have HM : Hid (LEnt.Row (w2.alloc (.cells #[.int .i64 x.1, .slice q m d] 34)).drew (some ⟨w2.heap.size, 0, none⟩) 1 [x]) := Lib.hid (Lay.Row.lit (Ext.drew (Ext.refl _)) (Lay.All.single (LEnt.ext HEn.out (Ext.trans (Ext.trans hw0 hx) X4))) rfl rfl (by omega))
        have HPE : Hid (putL F 500 [x] = F ++ [x]) := Lib.hid (putL_end _ _ _ HFL.out)
        have HPL2 : Hid (¬ (putL F 500 [x]).length ≤ 500) := Lib.hid (by rw [HPE.out, List.length_append, HFL.out]; simp)
        go_wp2
        go_region_held3 (fun w' => w'.cell? ⟨b, off + 499 * 2, none⟩ = some (.int .i64 z.1) ∧ w'.cell? ⟨w.heap.size, 0, none⟩ = some (.int .i64 x.1) ∧ w'.cell? ⟨w.heap.size, 1, none⟩ = some (.slice q m d)) (first | exact HS.out _ hxx | exact HS.out _ X4) ((go_at_call 12; go_loud (refine (put_over (HRW.out.ext X4) HM.out hnc (Nat.le_refl 1) hcm (by omega) HP.out (fun _ => ⟨_, _, rfl⟩) (by omega) (by omega) 500 rfl z.1 HF2.out HPL2.out).mono ?_); rintro e w3 ⟨⟨zC, sC, rfl⟩, hx1⟩; replace hxx := Ext.trans X4 hx1; clear hx1))
        replace HA := Lib.hid (HA.out.ext hxx)
        replace HRW := Lib.hid (HRW.out.ext hxx)
        replace hx := Ext.trans hx hxx
        clear hxx HS X4 HM
        go_wp2_with fail
        refine (rsame_any _ _ _ _ _ _ _ _ _ HA.out HRW.out).mono ?_
        rintro e w4 ⟨rfl, hx1⟩
        rw [decide_eq_true rfl]
        replace hx := Ext.trans hx hx1
        go_wp2
        go_ret
        exact ⟨rfl, Ext.trans hw0 hx⟩
  · have h40' : decide ((40 : Int) < (m : Int)) = true := decide_eq_true (by omega)
    go_wp2
    go_ret
    exact ⟨rfl, Ext.trans hw0 hx⟩
theorem long_walk2 {p1 : Option Addr} {n1 c1 : Nat} {cs : List Value} {l : List Ent} {x : Ent} {w : World} (h1 : LEnt.Row w p1 n1 l) (k1 : n1 ≤ c1) (m1 : c1 ≤ 9223372036854775807) (g1 : Pl p1 c1) (he : LEnt.R w cs x) :
    Calls Try.prog 4 #[.slice p1 n1 c1, .agg cs.toArray] w fun e w' => e = .returned (.bool true) ∧ Ext w w' := by
  obtain ⟨q, m, d, rfl, _⟩ := ent_cells he
  exact long_walk h1 k1 m1 g1 he
end Go.Proofs.Ytppckbhbgohbiaa.Lg
