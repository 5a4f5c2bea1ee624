/- Logs: Put. -/
import Derived.Test.YtppckbhbgohbiaaLogD
import Derived.Test.YtppckbhbgohbiaaLogE
import Derived.Test.YtppckbhbgohbiaaRepS
import Derived.Deep.RegionHeld3
namespace Go.Proofs.Ytppckbhbgohbiaa.Lg
open Go.RowKit Go.Proofs.Ytppckbhbgohbiaa
set_option linter.unusedVariables false

/-- how many entries agree at the beginning -/
def agree : List Ent → List Ent → Nat
  | x :: l, y :: m => if x = y then agree l m + 1 else 0
  | _, _ => 0
def putL (l : List Ent) (a : Nat) (more : List Ent) : List Ent :=
  if agree (l.drop a) more = more.length then l else l.take (a + agree (l.drop a) more) ++ more.drop (agree (l.drop a) more)
theorem agree_le : ∀ (l m : List Ent), agree l m ≤ l.length ∧ agree l m ≤ m.length
  | x :: l, y :: m => by
    unfold agree
    have := agree_le l m
    split <;> simp <;> omega
  | [], m => by simp [agree]
  | x :: l, [] => by simp [agree]
theorem agree_eq : ∀ (l m : List Ent) (s : Nat), s < agree l m → l[s]? = m[s]?
  | x :: l, y :: m, s, h => by
    unfold agree at h
    split at h
    · cases s with
      | zero => simp_all
      | succ s => simpa using agree_eq l m s (by omega)
    · omega
  | [], m, s, h => by simp [agree] at h
  | x :: l, [], s, h => by simp [agree] at h
theorem agree_at : ∀ (l m : List Ent) (i : Nat), i ≤ l.length → i ≤ m.length → (∀ s, s < i → l[s]? = m[s]?) → (i = m.length ∨ i = l.length ∨ l[i]? ≠ m[i]?) → agree l m = i
  | x :: l, y :: m, 0, _, _, _, h => by
    have hne : x ≠ y := by simpa using h
    simp [agree, hne]
  | x :: l, y :: m, i + 1, h1, h2, hs, h => by
    have h0 : x = y := by simpa using hs 0 (by omega)
    have ih := agree_at l m i (by simpa using h1) (by simpa using h2) (fun s hs' => by simpa using hs (s + 1) (by omega)) (by simpa using h)
    simp [agree, h0, ih]
  | [], m, i, h1, _, _, _ => by
    obtain rfl : i = 0 := by simpa using h1
    simp [agree]
  | x :: l, [], i, _, h2, _, _ => by
    obtain rfl : i = 0 := by simpa using h2
    simp [agree]

def PutR (w : World) (l more : List Ent) (a m : Nat) (u o i : Value) (wr : World) : Prop :=
  ∃ j : Nat, o = u ∧ i = .int .i64 j ∧ j ≤ m ∧ a + j ≤ l.length ∧ Hid (∀ s, s < j → (l.drop a)[s]? = more[s]?) ∧ Ext w wr
/-- what is told: the log, if it is not too long -/
def PutP (w : World) (r : List Ent) (e : Ending) (w' : World) : Prop :=
  ∃ p n c, e = .returned (.tuple #[.slice p n c, .bool (decide (r.length ≤ 500))]) ∧ (if r.length ≤ 500 then LEnt.Row w' p n r ∧ n ≤ c ∧ c ≤ 9223372036854775807 ∧ Pl p c else n = 0) ∧ Ext w w'
theorem PutP.yes {w w' : World} {r : List Ent} {p : Option Addr} {n c : Nat} (hr : LEnt.Row w' p n r) (hnc : n ≤ c) (hc : c ≤ 9223372036854775807) (hp : Pl p c) (hx : Ext w w') (h : n ≤ 500) : PutP w r (.returned (.tuple #[.slice p n c, .bool true])) w' := by
  have h' : r.length ≤ 500 := by rw [hr.1]; exact h
  exact ⟨p, n, c, by rw [decide_eq_true h'], by rw [if_pos h']; exact ⟨hr, hnc, hc, hp⟩, hx⟩
theorem PutP.no {w w' : World} {r : List Ent} (hx : Ext w w') (h : ¬ r.length ≤ 500) : PutP w r (.returned (.tuple #[.slice none 0 0, .bool false])) w' :=
  ⟨none, 0, 0, by rw [decide_eq_false h], by rw [if_neg h], hx⟩

theorem info_size : (Try.prog.info? 34).map (·.size) = some LEnt.size := by kernel_rfl

set_option maxRecDepth 100000 in
set_option maxHeartbeats 2000000 in
theorem put_fits (p q : Option Addr) (n c m d : Nat) (l more : List Ent) (w : World) (hl : LEnt.Row w p n l) (hm : LEnt.Row w q m more) (hnc : n ≤ c) (hmd : m ≤ d) (hc : c ≤ 9223372036854775807) (hd : d ≤ 9223372036854775807) (hp : Pl p c) (hq : Pl q d)
    (hn : n ≤ 1000) (hm1 : m ≤ 1000) (a : Nat) (t : Int) (hf : fitsB l a t = true) :
    Calls Try.prog 12 #[.slice p n c, .int .i64 a, .int .i64 t, .slice q m d] w fun e w' => PutP w (putL l a more) e w' := by
  have hal : a ≤ l.length := by
    unfold fitsB at hf
    have := of_decide_eq_true hf
    omega
  have HF := Lib.hid (fits_any p n c l w hl a t)
  rw [hf] at HF
  have HL := Lib.hid hl
  have HM := Lib.hid hm
  have HPL := Lib.hid hp
  have HQL := Lib.hid hq
  have hlen := hl.1
  rw [hlen] at hal
  clear hl hm hp hq hlen hf
  have HLN : Hid (l.length = n) := HL.out.1
  go_enter Try.func12, Try.ntmps12
  go_wp2_with fail
  go_step3
  go_wp2_with fail
  refine HF.out.mono ?_
  rintro e w' ⟨rfl, rfl⟩
  clear HF
  go_wp2
  go_step3
  go_wp2
  go_loopw [10, 22] (fun o i wr => PutR w l more a m (.slice p n c) o i wr) (fun _ i _ => m - (intOf i).toNat)
  case atStart => exact ⟨0, rfl, rfl, by omega, by rw [HLN.out]; omega, Lib.hid (by intro j hj; omega), Ext.refl _⟩
  case round =>
    obtain ⟨j, rfl, rfl, hj, hjl, HE, hx⟩ := hrel
    rw [HLN.out] at hjl
    by_cases hlt : j < m
    · have hlt' : (j : Int) < (m : Int) := by omega
      have hlt0 : (0 : Int) ≤ (j : Int) := by omega
      have gy := ent_get (l := more) (j := j) (by rw [HM.out.1]; exact hlt)
      generalize more.getD j (0, []) = y at gy
      obtain ⟨b2, off2, q1, m1, d1, rfl, y0, y1, _, ry, _⟩ := ent_at (HM.out.ext hx) gy
      have HY := Lib.hid ry
      have GY := Lib.hid gy
      clear ry gy
      have hwr : IntKind.i64.wrap ((a : Int) + (j : Int)) = (a : Int) + (j : Int) := IntWalk.i64_in _ (by omega)
      by_cases hend : a + j = n
      · have he1 : (((a : Int) + (j : Int)) == (n : Int)) = true := by simp; omega
        have slf : ∀ w, (Instr.slice 22 (.slice (some ⟨b2, off2, none⟩) m d) (some (.int .i64 (j : Int))) none none).run Try.prog w = .ok (.slice (cutP (some ⟨b2, off2, none⟩) d j LEnt.size) (m - j) (d - j)) w := fun w => run_cut_from Try.underlying22 info_size _ _ _ _ _ rfl (by omega) hmd w
        have HK : Hid (LEnt.Row wr (cutP (some ⟨b2, off2, none⟩) d j LEnt.size) (m - j) (more.drop j) ∧ Pl (cutP (some ⟨b2, off2, none⟩) d j LEnt.size) (d - j)) := Lib.hid ⟨(HM.out.ext hx).cut_from hmd HQL.out j (by omega), Pl.cut HQL.out _ _⟩
        generalize cutP (some ⟨b2, off2, none⟩) d j LEnt.size = Z at slf HK
        have hcat : Hid ((LEnt.slice).Row ((wr.alloc (.cells #[.int .i64 y.1, .slice q1 m1 d1] 34)).alloc (.cells #[.slice p n c, .slice Z (m - j) (d - j)] 22)) (some ⟨wr.heap.size + 1, 0, none⟩) 2 [l, more.drop j]) := Lib.hid (Lay.Row.lit (Ext.refl _) (Lay.all_sl2 (Lay.Sl.mk (HL.out.ext (Ext.trans hx (Ext.trans (Ext.alloc _ _) (Ext.alloc _ _)))) hnc hc HPL.out) (Lay.Sl.mk (HK.out.1.ext (Ext.trans (Ext.alloc _ _) (Ext.alloc _ _))) (by omega) (by omega) HK.out.2)) (by simp) rfl (by omega))
        have hle : Hid (lens [l, more.drop j] ≤ 1000000) := Lib.hid (by unfold lens; simp [HLN.out, HM.out.1]; omega)
        go_wp2_with fail
        refine (concat_any _ _ _ _ _ hcat.out hle.out).mono ?_
        rintro e w2 ⟨⟨v, rfl, hown⟩, hx2⟩
        replace hx := Ext.trans hx (Ext.trans (Ext.trans (Ext.alloc _ _) (Ext.alloc _ _)) hx2)
        obtain ⟨p3, n3, c3, rfl, hr3, hnc3, hc3, hp3⟩ := hown.sl
        have HR := Lib.hid hr3
        have HP3 := Lib.hid hp3
        have HPUT : Hid (putL l a more = [l, more.drop j].flatten) := Lib.hid (by
          have hag : agree (l.drop a) more = j := agree_at _ _ j (by rw [List.length_drop, HLN.out]; omega) (by rw [HM.out.1]; omega) HE.out (.inr (.inl (by rw [List.length_drop, HLN.out]; omega)))
          unfold putL
          rw [hag, if_neg (by rw [HM.out.1]; omega)]
          rw [List.take_of_length_le (by rw [HLN.out]; omega)]; simp)
        have hn3 : n3 ≤ 2000 := by have := hr3.1; simp [HLN.out, HM.out.1] at this; omega
        clear hown hx2 hr3 hp3
        by_cases h5 : n3 ≤ 500
        · have h5' : (n3 : Int) ≤ 500 := by omega
          go_wp2
          try rw [Exit.noGoto_ret]
          go_ret2
          rw [HPUT.out]
          exact PutP.yes HR.out hnc3 hc3 HP3.out hx h5
        · have h5' : (500 : Int) < (n3 : Int) := by omega
          go_wp2
          try rw [Exit.noGoto_ret]
          go_ret2
          rw [HPUT.out]
          exact PutP.no hx (by rw [HR.out.1]; exact h5)
      · have he1 : (((a : Int) + (j : Int)) == (n : Int)) = false := by simp; omega
        have gx := ent_get (l := l) (j := a + j) (by rw [HLN.out]; omega)
        generalize l.getD (a + j) (0, []) = x at gx
        obtain ⟨b, off, p1, n1, c1, rfl, x0, x1, _, rx, _⟩ := ent_at (HL.out.ext hx) gx
        have HX := Lib.hid rx
        have GX := Lib.hid gx
        clear rx gx
        have k1 : (0 : Int) ≤ (a : Int) + (j : Int) := by omega
        have k2 : (a : Int) + (j : Int) < (n : Int) := by omega
        have k3 : ((a : Int) + (j : Int)).toNat = a + j := by omega
        obtain ⟨B, hB⟩ : ∃ B, decide (x = y) = B := ⟨_, rfl⟩
        have HB := Lib.hid hB
        have hxx : Ext (wr.alloc (.cells #[.int .i64 y.1, .slice q1 m1 d1] 34)) (wr.alloc (.cells #[.int .i64 y.1, .slice q1 m1 d1] 34)).drew := Ext.drew (Ext.refl _)
        have HS : Hid (∀ w', Ext (wr.alloc (.cells #[.int .i64 y.1, .slice q1 m1 d1] 34)) w' → w'.cell? ⟨b, off + (a + j) * 2, none⟩ = some (.int .i64 x.1) ∧ w'.cell? ⟨b, off + (a + j) * 2 + 1, none⟩ = some (.slice p1 n1 c1) ∧ w'.cell? ⟨wr.heap.size, 0, none⟩ = some (.int .i64 y.1) ∧ w'.cell? ⟨wr.heap.size, 1, none⟩ = some (.slice q1 m1 d1)) := Lib.hid fun w' h => ⟨h.cell ((Ext.alloc wr _).cell x0), h.cell ((Ext.alloc wr _).cell x1), h.cell (cell_of_row _ _ 0 _ _ _ (heap_alloc_new wr _)), h.cell (cell_of_row _ _ 1 _ _ _ (heap_alloc_new wr _))⟩
        clear hB
        go_wp2
        go_region_held3 (fun w' => w'.cell? ⟨b, off + (a + j) * 2, none⟩ = some (.int .i64 x.1) ∧ w'.cell? ⟨b, off + (a + j) * 2 + 1, none⟩ = some (.slice p1 n1 c1) ∧ w'.cell? ⟨wr.heap.size, 0, none⟩ = some (.int .i64 y.1) ∧ w'.cell? ⟨wr.heap.size, 1, none⟩ = some (.slice q1 m1 d1)) (exact HS.out _ hxx) ((go_at_call 27; refine (alike_any x y _ _ _ _ _ _ _ (HX.out.ext (Ext.trans (Ext.alloc _ _) hxx)) (HY.out.ext (Ext.trans (Ext.alloc _ _) hxx))).mono ?_; rintro e w2 ⟨rfl, hx2⟩; rw [HB.out]; replace hxx := Ext.trans hxx hx2; clear hx2))
        replace hx := Ext.trans hx (Ext.trans (Ext.alloc _ _) hxx)
        clear hxx HS
        cases B
        · have slt : ∀ w, (Instr.slice 22 (.slice (some ⟨b, off, none⟩) n c) none (some (.int .i64 ((a : Int) + (j : Int)))) none).run Try.prog w = .ok (.slice (some ⟨b, off, none⟩) (a + j) c) w := fun w => run_cut_to Try.underlying22 info_size _ _ _ _ _ (by omega) (by omega) (fun _ => ⟨_, _, rfl⟩) w
          have slf : ∀ w, (Instr.slice 22 (.slice (some ⟨b2, off2, none⟩) m d) (some (.int .i64 (j : Int))) none none).run Try.prog w = .ok (.slice (cutP (some ⟨b2, off2, none⟩) d j LEnt.size) (m - j) (d - j)) w := fun w => run_cut_from Try.underlying22 info_size _ _ _ _ _ rfl (by omega) hmd w
          have HK : Hid (LEnt.Row w (cutP (some ⟨b2, off2, none⟩) d j LEnt.size) (m - j) (more.drop j) ∧ Pl (cutP (some ⟨b2, off2, none⟩) d j LEnt.size) (d - j)) := Lib.hid ⟨HM.out.cut_from hmd HQL.out j (by omega), Pl.cut HQL.out _ _⟩
          have HT : Hid (LEnt.Row w (some ⟨b, off, none⟩) (a + j) (l.take (a + j))) := Lib.hid (HL.out.pre (a + j) (by omega))
          generalize cutP (some ⟨b2, off2, none⟩) d j LEnt.size = Z at slf HK
          have hcat : Hid ((LEnt.slice).Row (w2.alloc (.cells #[.slice (some ⟨b, off, none⟩) (a + j) c, .slice Z (m - j) (d - j)] 22)).drew (some ⟨w2.heap.size, 0, none⟩) 2 [l.take (a + j), more.drop j]) := Lib.hid (Lay.Row.lit (Ext.drew (Ext.refl _)) (Lay.all_sl2 (Lay.Sl.mk (HT.out.ext (Ext.drew (Ext.trans hx (Ext.alloc _ _)))) (by omega) hc HPL.out) (Lay.Sl.mk (HK.out.1.ext (Ext.drew (Ext.trans hx (Ext.alloc _ _)))) (by omega) (by omega) HK.out.2)) rfl rfl (by omega))
          have hle : Hid (lens [l.take (a + j), more.drop j] ≤ 1000000) := Lib.hid (by unfold lens; simp [HLN.out, HM.out.1]; omega)
          have hxx : Ext w w2.drew := Ext.drew hx
          go_wp2
          go_region_held3 (fun w' => Ext w w') (first | exact hxx | exact Ext.drew (Ext.trans hx (Ext.alloc _ _))) ((go_at_call 26; go_loud (refine (concat_any _ _ _ _ _ hcat.out hle.out).mono ?_); rintro e w3 ⟨⟨v, rfl, hown⟩, hx3⟩; replace hxx := Ext.trans (Ext.drew (Ext.trans hx (Ext.alloc _ _))) hx3))
          replace hx := hxx
          obtain ⟨p3, n3, c3, rfl, hr3, hnc3, hc3, hp3⟩ := hown.sl
          have HR := Lib.hid hr3
          have HP3 := Lib.hid hp3
          have HPUT : Hid (putL l a more = [l.take (a + j), more.drop j].flatten) := Lib.hid (by
            have hag : agree (l.drop a) more = j := agree_at _ _ j (by rw [List.length_drop, HLN.out]; omega) (by rw [HM.out.1]; omega) HE.out (.inr (.inr (by
              rw [List.getElem?_drop, GX.out, GY.out]
              intro e
              exact of_decide_eq_false HB.out (by simpa using e))))
            unfold putL
            rw [hag, if_neg (by rw [HM.out.1]; omega)]
            simp)
          have hn3 : n3 ≤ 2000 := by have := hr3.1; simp [HLN.out, HM.out.1] at this; omega
          clear hown hx3 hr3 hp3 hxx
          by_cases h5 : n3 ≤ 500
          · have h5' : (n3 : Int) ≤ 500 := by omega
            go_wp2
            try rw [Exit.noGoto_ret]
            go_ret2
            rw [HPUT.out]
            exact PutP.yes HR.out hnc3 hc3 HP3.out hx h5
          · have h5' : (500 : Int) < (n3 : Int) := by omega
            go_wp2
            try rw [Exit.noGoto_ret]
            go_ret2
            rw [HPUT.out]
            exact PutP.no hx (by rw [HR.out.1]; exact h5)
        · go_wp2
          go_roundw
          case rel => exact ⟨j + 1, rfl, by go_num, by omega, by have := HLN.out; omega, Lib.hid (fun s hs => by
            by_cases e : s = j
            · subst e; rw [List.getElem?_drop, GX.out, GY.out, of_decide_eq_true HB.out]
            · exact HE.out s (by omega)), hx⟩
          case measure => simp [intOf]; omega
    · obtain rfl : j = m := by omega
      have HPUT : Hid (putL l a more = l) := Lib.hid (by
        have hag : agree (l.drop a) more = j := agree_at _ _ j (by rw [List.length_drop, HLN.out]; omega) (by rw [HM.out.1]; omega) HE.out (.inl (by rw [HM.out.1]))
        unfold putL
        rw [hag, if_pos HM.out.1.symm])
      by_cases h5 : n ≤ 500
      · have h5' : (n : Int) ≤ 500 := by omega
        go_wp2
        try rw [Exit.noGoto_ret]
        go_ret2
        rw [HPUT.out]
        exact PutP.yes (HL.out.ext hx) hnc hc HPL.out hx h5
      · have h5' : (500 : Int) < (n : Int) := by omega
        go_wp2
        try rw [Exit.noGoto_ret]
        go_ret2
        rw [HPUT.out]
        exact PutP.no hx (by rw [HLN.out]; exact h5)

set_option maxHeartbeats 1000000 in
theorem put_not (p : Option Addr) (n c : Nat) (v : Value) (l : List Ent) (w : World) (hl : LEnt.Row w p n l) (a : Int) (t : Int) (hf : fitsB l a t = false) :
    Calls Try.prog 12 #[.slice p n c, .int .i64 a, .int .i64 t, v] w fun e w' => e = .returned (.tuple #[.slice none 0 0, .bool false]) ∧ w = w' := by
  have HF := Lib.hid (fits_any p n c l w hl a t)
  rw [hf] at HF
  clear hl hf
  go_enter Try.func12, Try.ntmps12
  go_wp2_with fail
  go_step3
  go_wp2_with fail
  refine HF.out.mono ?_
  rintro e w' ⟨rfl, rfl⟩
  clear HF
  go_wp2
  try rw [Exit.noGoto_ret]
  go_ret2
  exact ⟨rfl, rfl⟩
end Go.Proofs.Ytppckbhbgohbiaa.Lg
