/- Messages: the walk of WireSides. -/
import Derived.Test.YtifbmkcfgpfefaaWiO
import Derived.Test.YtifbmkcfgpfefaaGrow
namespace Go.Proofs.Ytifbmkcfgpfefaa.Wi
open Go.RowKit Go.Proofs.Ytifbmkcfgpfefaa
set_option linter.unusedVariables false

theorem in_mem {s : List Int} {m : Int} : inB s m = true ↔ m ∈ s := by
  unfold inB; simp
/-- those that are not on the side -/
def othL (l : List Mg) (s : List Int) : List Int := l.flatMap (fun x => (if inB s x.a = true then [] else [x.a]) ++ (if inB s x.b = true then [] else [x.b]))
theorem oth_step {l : List Mg} {j : Nat} {x : Mg} (h : l[j]? = some x) (s : List Int) : othL (l.take (j + 1)) s = othL (l.take j) s ++ ((if inB s x.a = true then [] else [x.a]) ++ (if inB s x.b = true then [] else [x.b])) := by
  unfold othL
  rw [List.take_add_one, h]
  show List.flatMap _ (l.take j ++ [x]) = _
  rw [List.flatMap_append]; simp
theorem oth_len (l : List Mg) (s : List Int) : (othL l s).length ≤ 2 * l.length := by
  unfold othL
  induction l with
  | nil => simp
  | cons x l ih =>
    rw [List.flatMap_cons, List.length_append, List.length_append, List.length_cons]
    have h1 : (if inB s x.a = true then [] else [x.a]).length ≤ 1 := by split <;> simp
    have h2 : (if inB s x.b = true then [] else [x.b]).length ≤ 1 := by split <;> simp
    omega
theorem oth_in {l : List Mg} {s : List Int} {m : Int} (h : ∃ x ∈ l, x.a = m ∨ x.b = m) : inB (othL l s) m = !inB s m := by
  by_cases hm : inB s m = true
  · rw [hm]
    have : ¬ inB (othL l s) m = true := fun h2 => by
      have h3 := in_mem.1 h2
      unfold othL at h3
      obtain ⟨x, _, hx⟩ := List.mem_flatMap.1 h3
      rcases List.mem_append.1 hx with h4 | h4
      · split at h4
        · cases h4
        · rename_i h5; rw [List.mem_singleton] at h4; subst h4; exact h5 hm
      · split at h4
        · cases h4
        · rename_i h5; rw [List.mem_singleton] at h4; subst h4; exact h5 hm
    simpa using this
  · have hm' : inB s m = false := by simpa using hm
    rw [hm']
    show _ = true
    rw [in_mem]
    unfold othL
    obtain ⟨x, hx, h2⟩ := h
    refine List.mem_flatMap.2 ⟨x, hx, List.mem_append.2 ?_⟩
    rcases h2 with h2 | h2
    · exact .inl (by rw [h2, if_neg hm]; simp)
    · exact .inr (by rw [h2, if_neg hm]; simp)
theorem cut_oth (l : List Mg) (s : List Int) : cutL l (othL l s) = cutL l s := by
  unfold cutL
  refine List.filter_congr (fun x hx => ?_)
  rw [oth_in ⟨x, hx, .inl rfl⟩, oth_in ⟨x, hx, .inr rfl⟩]
  cases inB s x.a <;> cases inB s x.b <;> rfl
theorem cut_cut (l : List Mg) (s : List Int) : cutL (cutL l s) s = cutL l s := by
  unfold cutL; rw [List.filter_filter]; simp
theorem cut_none (l : List Mg) : cutL l [] = l := by
  unfold cutL; rw [List.filter_eq_self]; intro x _; simp [inB]
theorem cut_yes {l : List Mg} {s : List Int} {j : Nat} {x : Mg} (h : l[j]? = some x) (hb : (inB s x.a == inB s x.b) = true) : (cutL l s)[(cutL (l.take j) s).length]? = some x := by
  have hl := (List.getElem?_eq_some_iff.1 h).1
  have e : cutL l s = cutL (l.take (j + 1)) s ++ cutL (l.drop (j + 1)) s := by
    unfold cutL; rw [← List.filter_append, List.take_append_drop]
  rw [e, cut_step h, if_pos hb]
  simp
def SidesR (w5 : World) (l : List Mg) (sd : List Int) (n : Nat) (o a i : Value) (wr : World) : Prop :=
  ∃ j : Nat, i = .int .i64 j ∧ j ≤ n ∧ a = .int .i64 ((cutL (l.take j) sd).length : Nat) ∧ (Lay.int .i64).Own wr w5.heap.size 3 o (othL (l.take j) sd) ∧ Ext w5 wr
set_option maxRecDepth 100000 in
set_option maxHeartbeats 16000000 in
theorem sides_walk {p : Option Addr} {n c : Nat} {l : List Mg} {ps : Option Addr} {ns cs : Nat} {sd : List Int} {w : World} (hl : LMg.Sl w (.slice p n c) l) (hu : (Lay.int .i64).Sl w (.slice ps ns cs) sd) : Calls Try.prog 7 #[.slice p n c, .slice ps ns cs] w fun e w' => e = .returned (.bool true) ∧ Ext w w' := by
  have HL := Lib.hid hl
  have HU := Lib.hid hu
  have hln : l.length = n := (sl_parts hl).1.1
  have HLN := Lib.hid hln
  obtain ⟨i0, hi0, hzi0, hzi1, hzi2⟩ := info_parts info_int
  clear hl hu
  go_enter Try.func7, Try.ntmps7
  go_wp2_with fail
  refine (head_v _).mono ?_
  rintro e w2 ⟨rfl, hx2⟩
  have HW2 := Lib.hid hx2
  have HL2 := Lib.hid (HL.out.ext hx2)
  have HU2 := Lib.hid (HU.out.ext hx2)
  clear hx2
  go_wp2_with fail
  refine (great_any p n c l w2 (sl_row HL2.out)).mono ?_
  rintro e w3 ⟨⟨g, rfl, hg⟩, hw3⟩
  obtain rfl : w2 = w3 := hw3.symm
  cases g
  · have HS : Hid (Small l) := Lib.hid (hg.1 rfl)
    clear hg
    have hn220 : n ≤ 220 := by rw [← HLN.out]; exact HS.out.1
    by_cases h20 : ¬ (20 : Int) < (ns : Int)
    · have HNB : Hid (n ≤ 1000) := Lib.hid (by omega)
      go_wp2_with fail
      refine (cut_v p n c l ps ns cs sd w2 (sl_row HL2.out) (sl_row HU2.out) HNB.out).mono ?_
      rintro e w5 ⟨⟨v5, rfl, hs5⟩, hx5⟩
      obtain ⟨p5, n5, c5, rfl, hn5⟩ := sl_form hs5
      have HS5 := Lib.hid hs5
      have HX5 := Lib.hid hx5
      have HW5 := Lib.hid (Ext.trans HW2.out hx5)
      have HL5 := Lib.hid (HL.out.ext HW5.out)
      have HU5 := Lib.hid (HU.out.ext HW5.out)
      have H5N := Lib.hid hn5
      have hn5n : n5 ≤ n := by have := cut_len l sd; omega
      clear hs5 hx5 hn5
      go_wp2
      go_loopw [7, 8, 9] (fun o a i wr => SidesR w5 l sd n o a i wr) (fun _ _ i _ => n - (intOf i).toNat)
      case atStart => exact ⟨0, rfl, by omega, by simp [cutL], Lay.Own.nil _ _ _ _, Ext.refl _⟩
      case round =>
        obtain ⟨j, rfl, hj, rfl, ho, hx⟩ := hrel
        obtain ⟨pu, nu, cu, rfl⟩ := own_form ho
        have HX := Lib.hid hx
        have HO := Lib.hid ho
        by_cases hlt : j < n
        · have hlt' : (j : Int) < (n : Int) := by omega
          have hlt0 : (0 : Int) ≤ (j : Int) := by omega
          obtain ⟨y, gy⟩ : ∃ y, l[j]? = some y := ⟨_, List.getElem?_eq_getElem (by rw [HLN.out]; exact hlt)⟩
          obtain ⟨b, off, p2, n2, c2, q2, m2, d2, hp2, x0, x1, x2, x3, x4, ty⟩ := mg_at (sl_row HL5.out) gy
          subst hp2
          have GY := Lib.hid gy
          have TY := Lib.hid ty
          have HCY : Hid (∀ w', Ext w5 w' → w'.cell? ⟨b, off + j * 5, none⟩ = some (.int .i64 y.a) ∧ w'.cell? ⟨b, off + j * 5 + 1, none⟩ = some (.int .i64 y.b) ∧ w'.cell? ⟨b, off + j * 5 + 2, none⟩ = some (.int .i64 y.k) ∧ w'.cell? ⟨b, off + j * 5 + 3, none⟩ = some (.slice p2 n2 c2) ∧ w'.cell? ⟨b, off + j * 5 + 4, none⟩ = some (.slice q2 m2 d2)) := Lib.hid fun w' h => ⟨h.cell x0, h.cell x1, h.cell x2, h.cell x3, h.cell x4⟩
          obtain ⟨k, hk⟩ : ∃ k, (cutL (l.take j) sd).length = k := ⟨_, rfl⟩
          have HK := Lib.hid hk
          rw [hk]
          have hk0 : (0 : Int) ≤ (k : Int) := by omega
          have hkb : k ≤ n := by rw [← hk]; have := cut_len (l.take j) sd; rw [List.length_take, HLN.out] at this; omega
          have hw1 : IntKind.i64.wrap ((k : Int) + 1) = (k : Int) + 1 := IntWalk.i64_in _ (by omega)
          have HOL : Hid ((othL (l.take j) sd).length ≤ 440) := Lib.hid (by have := oth_len (l.take j) sd; rw [List.length_take, HLN.out] at this; omega)
          clear x0 x1 x2 x3 x4 gy ty hk ho hx
          have CA : Hid (∀ w', Ext w5 w' → Calls Try.prog 23 #[.slice ps ns cs, .int .i64 y.a] w' fun e w'' => e = .returned (.bool (inB sd y.a)) ∧ w'' = w') := Lib.hid fun w' h => rin_any ps ns cs sd y.a w' (sl_row (HU5.out.ext h))
          have CB : Hid (∀ w', Ext w5 w' → Calls Try.prog 23 #[.slice ps ns cs, .int .i64 y.b] w' fun e w'' => e = .returned (.bool (inB sd y.b)) ∧ w'' = w') := Lib.hid fun w' h => rin_any ps ns cs sd y.b w' (sl_row (HU5.out.ext h))
          rcases hba : inB sd y.a with _ | _ <;> rcases hbb : inB sd y.b with _ | _
          · have HBA := Lib.hid hba
            have HBB := Lib.hid hbb
            clear hba hbb
            obtain ⟨x0, x1, x2, x3, x4⟩ := HCY.out wr HX.out
            go_wp2_with fail
            have hcA := CA.out wr HX.out
            rw [HBA.out] at hcA
            refine hcA.mono ?_
            rintro e zA ⟨rfl, hzA⟩
            obtain rfl : wr = zA := hzA.symm
            clear hcA
            have HOAP := Lib.hid (HO.out.ext (Ext.alloc wr (.cells #[.int .i64 y.a] 3)))
            clear x0 x1 x2 x3 x4
            obtain ⟨x0, x1, x2, x3, x4⟩ := HCY.out wr HX.out
            go_wp2_with (at_builtin; refine Lay.wpList_append (E := Lay.int .i64) rfl (.tmp 36) (.tmp 42) 23 rfl w5.heap.size 3 i0 (.int .i64 0) 8 Try.underlying23 hi0 hzi0 hzi1 hzi2 rfl (.slice pu nu cu) (othL (l.take j) sd) rfl HOAP.out (some ⟨wr.heap.size, 0, none⟩) 1 1 [y.a] rfl (fun _ => ⟨_, _, rfl⟩) (Nat.le_refl _) (plain_i64.lit (Ext.refl _) (Lay.All.single ⟨rfl, TY.out.wa⟩) rfl rfl (by decide)) (by have := HOL.out; unfold maxLen; simp; omega) (by have := HOL.out; simp; omega) (by have := HX.out.size; simp; omega) ?_; intro uP wP hownP hgP; have HXP := Lib.hid (HOAP.out.below (Ext.trans HX.out (Ext.alloc _ _)) (Nat.le_refl _) hgP); have HOP := Lib.hid hownP; clear hownP hgP; obtain ⟨puP, nuP, cuP, rfl⟩ := own_form HOP.out; clear x0 x1 x2 x3 x4; obtain ⟨x0, x1, x2, x3, x4⟩ := HCY.out wP HXP.out)
            have hcB := CB.out wP HXP.out
            rw [HBB.out] at hcB
            refine hcB.mono ?_
            rintro e zB ⟨rfl, hzB⟩
            obtain rfl : wP = zB := hzB.symm
            clear hcB
            have HOAQ := Lib.hid (HOP.out.ext (Ext.alloc wP (.cells #[.int .i64 y.b] 3)))
            clear x0 x1 x2 x3 x4
            obtain ⟨x0, x1, x2, x3, x4⟩ := HCY.out wP HXP.out
            go_wp2_with (at_builtin; refine Lay.wpList_append (E := Lay.int .i64) rfl (.tmp 52) (.tmp 58) 23 rfl w5.heap.size 3 i0 (.int .i64 0) 8 Try.underlying23 hi0 hzi0 hzi1 hzi2 rfl (.slice puP nuP cuP) ((othL (l.take j) sd) ++ [y.a]) rfl HOAQ.out (some ⟨wP.heap.size, 0, none⟩) 1 1 [y.b] rfl (fun _ => ⟨_, _, rfl⟩) (Nat.le_refl _) (plain_i64.lit (Ext.refl _) (Lay.All.single ⟨rfl, TY.out.wb⟩) rfl rfl (by decide)) (by have := HOL.out; unfold maxLen; simp; omega) (by have := HOL.out; simp; omega) (by have := HXP.out.size; simp; omega) ?_; intro uQ wQ hownQ hgQ; have HXQ := Lib.hid (HOAQ.out.below (Ext.trans HXP.out (Ext.alloc _ _)) (Nat.le_refl _) hgQ); have HOQ := Lib.hid hownQ; clear hownQ hgQ; obtain ⟨puQ, nuQ, cuQ, rfl⟩ := own_form HOQ.out; clear x0 x1 x2 x3 x4; obtain ⟨x0, x1, x2, x3, x4⟩ := HCY.out wQ HXQ.out)
            have X0 : ∀ g : Gr wQ, g.w.cell? ⟨b, off + j * 5, none⟩ = some (.int .i64 y.a) := fun g => (HCY.out g.w (Ext.trans HXQ.out g.h)).1
            have X1 : ∀ g : Gr wQ, g.w.cell? ⟨b, off + j * 5 + 1, none⟩ = some (.int .i64 y.b) := fun g => (HCY.out g.w (Ext.trans HXQ.out g.h)).2.1
            have KA : Hid (∀ g : Gr wQ, Calls Try.prog 23 #[.slice ps ns cs, .int .i64 y.a] g.w fun e w' => e = .returned (.bool false) ∧ Ext g.w w') := Lib.hid fun g => (CA.out g.w (Ext.trans HXQ.out g.h)).mono fun e w' h => ⟨by rw [h.1, HBA.out], by rw [h.2]; exact Ext.refl _⟩
            have KB : Hid (∀ g : Gr wQ, Calls Try.prog 23 #[.slice ps ns cs, .int .i64 y.b] g.w fun e w' => e = .returned (.bool false) ∧ Ext g.w w') := Lib.hid fun g => (CB.out g.w (Ext.trans HXQ.out g.h)).mono fun e w' h => ⟨by rw [h.1, HBB.out], by rw [h.2]; exact Ext.refl _⟩
            clear x0 x1 x2 x3 x4
            refine wp_region_grown (Ext.refl wQ) (by kernel_rfl) (by kernel_rfl) ?_
            repeat (go_big_quiet_step (first | (go_at_call 23; with_reducible exact Gr.of (KA.out _)) | (go_at_call 23; with_reducible exact Gr.of (KB.out _))))
            refine wpQuiet_nil ?_
            intro gw
            have HG := Lib.hid gw.h
            clear X0 X1
            generalize gw.w = wg at HG ⊢
            have hyes := cut_yes GY.out (s := sd) (by rw [HBA.out, HBB.out]; rfl)
            rw [HK.out] at hyes
            have hk5 : k < n5 := by rw [H5N.out]; exact (List.getElem?_eq_some_iff.1 hyes).1
            have hk5' : (k : Int) < (n5 : Int) := by omega
            have hk5'' : decide (n5 ≤ k) = false := decide_eq_false (by omega)
            obtain ⟨b5, o5, p6, n6, c6, q6, m6, d6, hp5, y0, y1, y2, y3, y4, ty6⟩ := mg_at (sl_row HS5.out) hyes
            subst hp5
            have HGX := Lib.hid (Ext.trans HXQ.out HG.out)
            obtain ⟨x0, x1, x2, x3, x4⟩ := HCY.out wg HGX.out
            have Y0 : ∀ g : Gr wg, g.w.cell? _ = some _ := fun g => (Ext.trans HGX.out g.h).cell y0
            have Y1 : ∀ g : Gr wg, g.w.cell? _ = some _ := fun g => (Ext.trans HGX.out g.h).cell y1
            have Y2 : ∀ g : Gr wg, g.w.cell? _ = some _ := fun g => (Ext.trans HGX.out g.h).cell y2
            have Y3 : ∀ g : Gr wg, g.w.cell? _ = some _ := fun g => (Ext.trans HGX.out g.h).cell y3
            have Y4 : ∀ g : Gr wg, g.w.cell? _ = some _ := fun g => (Ext.trans HGX.out g.h).cell y4
            have X0 : ∀ g : Gr wg, g.w.cell? _ = some _ := fun g => g.cell x0
            have X1 : ∀ g : Gr wg, g.w.cell? _ = some _ := fun g => g.cell x1
            have X2 : ∀ g : Gr wg, g.w.cell? _ = some _ := fun g => g.cell x2
            have X3 : ∀ g : Gr wg, g.w.cell? _ = some _ := fun g => g.cell x3
            have X4 : ∀ g : Gr wg, g.w.cell? _ = some _ := fun g => g.cell x4
            have KC : Hid (∀ g : Gr wg, Calls Try.prog 16 #[.agg #[.int .i64 y.a, .int .i64 y.b, .int .i64 y.k, .slice p6 n6 c6, .slice q6 m6 d6], .agg #[.int .i64 y.a, .int .i64 y.b, .int .i64 y.k, .slice p2 n2 c2, .slice q2 m2 d2]] g.w fun e w' => e = .returned (.bool true) ∧ Ext g.w w') := Lib.hid fun g => rsame1_t (ty6.ext (Ext.trans HGX.out g.h)) (TY.out.ext (Ext.trans HGX.out g.h)) rfl
            clear x0 x1 x2 x3 x4 y0 y1 y2 y3 y4 ty6 hyes
            go_wp2
            refine wp_region_grown (Ext.refl wg) (by kernel_rfl) (by kernel_rfl) ?_
            repeat (go_big_quiet_step (first | (go_at_call 16; with_reducible exact Gr.of (KC.out _))))
            refine wpQuiet_nil ?_
            intro gw2
            have HG2 := Lib.hid gw2.h
            clear X0 X1 X2 X3 X4 Y0 Y1 Y2 Y3 Y4
            generalize gw2.w = wh at HG2 ⊢
            have HGG : Hid (Ext wQ wh) := Lib.hid (Ext.trans HG.out HG2.out)
            go_wp2
            go_roundw
            case rel => exact ⟨j + 1, by go_num, by omega, by rw [cut_step GY.out, HBA.out, HBB.out, if_pos (by decide), List.length_append, HK.out]; go_num, by rw [oth_step GY.out, HBA.out, HBB.out]; simpa using HOQ.out.ext (HGG.out), Ext.trans HXQ.out HGG.out⟩
            case measure => simp [intOf]; omega
          · have HBA := Lib.hid hba
            have HBB := Lib.hid hbb
            clear hba hbb
            obtain ⟨x0, x1, x2, x3, x4⟩ := HCY.out wr HX.out
            go_wp2_with fail
            have hcA := CA.out wr HX.out
            rw [HBA.out] at hcA
            refine hcA.mono ?_
            rintro e zA ⟨rfl, hzA⟩
            obtain rfl : wr = zA := hzA.symm
            clear hcA
            have HOAP := Lib.hid (HO.out.ext (Ext.alloc wr (.cells #[.int .i64 y.a] 3)))
            clear x0 x1 x2 x3 x4
            obtain ⟨x0, x1, x2, x3, x4⟩ := HCY.out wr HX.out
            go_wp2_with (at_builtin; refine Lay.wpList_append (E := Lay.int .i64) rfl (.tmp 36) (.tmp 42) 23 rfl w5.heap.size 3 i0 (.int .i64 0) 8 Try.underlying23 hi0 hzi0 hzi1 hzi2 rfl (.slice pu nu cu) (othL (l.take j) sd) rfl HOAP.out (some ⟨wr.heap.size, 0, none⟩) 1 1 [y.a] rfl (fun _ => ⟨_, _, rfl⟩) (Nat.le_refl _) (plain_i64.lit (Ext.refl _) (Lay.All.single ⟨rfl, TY.out.wa⟩) rfl rfl (by decide)) (by have := HOL.out; unfold maxLen; simp; omega) (by have := HOL.out; simp; omega) (by have := HX.out.size; simp; omega) ?_; intro uP wP hownP hgP; have HXP := Lib.hid (HOAP.out.below (Ext.trans HX.out (Ext.alloc _ _)) (Nat.le_refl _) hgP); have HOP := Lib.hid hownP; clear hownP hgP; obtain ⟨puP, nuP, cuP, rfl⟩ := own_form HOP.out; clear x0 x1 x2 x3 x4; obtain ⟨x0, x1, x2, x3, x4⟩ := HCY.out wP HXP.out)
            have hcB := CB.out wP HXP.out
            rw [HBB.out] at hcB
            refine hcB.mono ?_
            rintro e zB ⟨rfl, hzB⟩
            obtain rfl : wP = zB := hzB.symm
            clear hcB
            go_wp2
            have X0 : ∀ g : Gr wP, g.w.cell? ⟨b, off + j * 5, none⟩ = some (.int .i64 y.a) := fun g => (HCY.out g.w (Ext.trans HXP.out g.h)).1
            have X1 : ∀ g : Gr wP, g.w.cell? ⟨b, off + j * 5 + 1, none⟩ = some (.int .i64 y.b) := fun g => (HCY.out g.w (Ext.trans HXP.out g.h)).2.1
            have KA : Hid (∀ g : Gr wP, Calls Try.prog 23 #[.slice ps ns cs, .int .i64 y.a] g.w fun e w' => e = .returned (.bool false) ∧ Ext g.w w') := Lib.hid fun g => (CA.out g.w (Ext.trans HXP.out g.h)).mono fun e w' h => ⟨by rw [h.1, HBA.out], by rw [h.2]; exact Ext.refl _⟩
            have KB : Hid (∀ g : Gr wP, Calls Try.prog 23 #[.slice ps ns cs, .int .i64 y.b] g.w fun e w' => e = .returned (.bool true) ∧ Ext g.w w') := Lib.hid fun g => (CB.out g.w (Ext.trans HXP.out g.h)).mono fun e w' h => ⟨by rw [h.1, HBB.out], by rw [h.2]; exact Ext.refl _⟩
            clear x0 x1 x2 x3 x4
            refine wp_region_grown (Ext.refl wP) (by kernel_rfl) (by kernel_rfl) ?_
            repeat (go_big_quiet_step (first | (go_at_call 23; with_reducible exact Gr.of (KA.out _)) | (go_at_call 23; with_reducible exact Gr.of (KB.out _))))
            refine wpQuiet_nil ?_
            intro gw
            have HG := Lib.hid gw.h
            clear X0 X1
            generalize gw.w = wg at HG ⊢
            have HGG : Hid (Ext wP wg) := HG
            go_wp2
            go_roundw
            case rel => exact ⟨j + 1, by go_num, by omega, by rw [cut_step GY.out, HBA.out, HBB.out, if_neg (by decide), List.append_nil, HK.out], by rw [oth_step GY.out, HBA.out, HBB.out]; simpa using HOP.out.ext (HGG.out), Ext.trans HXP.out HGG.out⟩
            case measure => simp [intOf]; omega
          · have HBA := Lib.hid hba
            have HBB := Lib.hid hbb
            clear hba hbb
            obtain ⟨x0, x1, x2, x3, x4⟩ := HCY.out wr HX.out
            go_wp2_with fail
            have hcA := CA.out wr HX.out
            rw [HBA.out] at hcA
            refine hcA.mono ?_
            rintro e zA ⟨rfl, hzA⟩
            obtain rfl : wr = zA := hzA.symm
            clear hcA
            go_wp2_with fail
            have hcB := CB.out wr HX.out
            rw [HBB.out] at hcB
            refine hcB.mono ?_
            rintro e zB ⟨rfl, hzB⟩
            obtain rfl : wr = zB := hzB.symm
            clear hcB
            have HOAQ := Lib.hid (HO.out.ext (Ext.alloc wr (.cells #[.int .i64 y.b] 3)))
            clear x0 x1 x2 x3 x4
            obtain ⟨x0, x1, x2, x3, x4⟩ := HCY.out wr HX.out
            go_wp2_with (at_builtin; refine Lay.wpList_append (E := Lay.int .i64) rfl (.tmp 52) (.tmp 58) 23 rfl w5.heap.size 3 i0 (.int .i64 0) 8 Try.underlying23 hi0 hzi0 hzi1 hzi2 rfl (.slice pu nu cu) (othL (l.take j) sd) rfl HOAQ.out (some ⟨wr.heap.size, 0, none⟩) 1 1 [y.b] rfl (fun _ => ⟨_, _, rfl⟩) (Nat.le_refl _) (plain_i64.lit (Ext.refl _) (Lay.All.single ⟨rfl, TY.out.wb⟩) rfl rfl (by decide)) (by have := HOL.out; unfold maxLen; simp; omega) (by have := HOL.out; simp; omega) (by have := HX.out.size; simp; omega) ?_; intro uQ wQ hownQ hgQ; have HXQ := Lib.hid (HOAQ.out.below (Ext.trans HX.out (Ext.alloc _ _)) (Nat.le_refl _) hgQ); have HOQ := Lib.hid hownQ; clear hownQ hgQ; obtain ⟨puQ, nuQ, cuQ, rfl⟩ := own_form HOQ.out; clear x0 x1 x2 x3 x4; obtain ⟨x0, x1, x2, x3, x4⟩ := HCY.out wQ HXQ.out)
            have X0 : ∀ g : Gr wQ, g.w.cell? ⟨b, off + j * 5, none⟩ = some (.int .i64 y.a) := fun g => (HCY.out g.w (Ext.trans HXQ.out g.h)).1
            have X1 : ∀ g : Gr wQ, g.w.cell? ⟨b, off + j * 5 + 1, none⟩ = some (.int .i64 y.b) := fun g => (HCY.out g.w (Ext.trans HXQ.out g.h)).2.1
            have KA : Hid (∀ g : Gr wQ, Calls Try.prog 23 #[.slice ps ns cs, .int .i64 y.a] g.w fun e w' => e = .returned (.bool true) ∧ Ext g.w w') := Lib.hid fun g => (CA.out g.w (Ext.trans HXQ.out g.h)).mono fun e w' h => ⟨by rw [h.1, HBA.out], by rw [h.2]; exact Ext.refl _⟩
            have KB : Hid (∀ g : Gr wQ, Calls Try.prog 23 #[.slice ps ns cs, .int .i64 y.b] g.w fun e w' => e = .returned (.bool false) ∧ Ext g.w w') := Lib.hid fun g => (CB.out g.w (Ext.trans HXQ.out g.h)).mono fun e w' h => ⟨by rw [h.1, HBB.out], by rw [h.2]; exact Ext.refl _⟩
            clear x0 x1 x2 x3 x4
            refine wp_region_grown (Ext.refl wQ) (by kernel_rfl) (by kernel_rfl) ?_
            repeat (go_big_quiet_step (first | (go_at_call 23; with_reducible exact Gr.of (KA.out _)) | (go_at_call 23; with_reducible exact Gr.of (KB.out _))))
            refine wpQuiet_nil ?_
            intro gw
            have HG := Lib.hid gw.h
            clear X0 X1
            generalize gw.w = wg at HG ⊢
            have HGG : Hid (Ext wQ wg) := HG
            go_wp2
            go_roundw
            case rel => exact ⟨j + 1, by go_num, by omega, by rw [cut_step GY.out, HBA.out, HBB.out, if_neg (by decide), List.append_nil, HK.out], by rw [oth_step GY.out, HBA.out, HBB.out]; simpa using HOQ.out.ext (HGG.out), Ext.trans HXQ.out HGG.out⟩
            case measure => simp [intOf]; omega
          · have HBA := Lib.hid hba
            have HBB := Lib.hid hbb
            clear hba hbb
            obtain ⟨x0, x1, x2, x3, x4⟩ := HCY.out wr HX.out
            go_wp2_with fail
            have hcA := CA.out wr HX.out
            rw [HBA.out] at hcA
            refine hcA.mono ?_
            rintro e zA ⟨rfl, hzA⟩
            obtain rfl : wr = zA := hzA.symm
            clear hcA
            go_wp2_with fail
            have hcB := CB.out wr HX.out
            rw [HBB.out] at hcB
            refine hcB.mono ?_
            rintro e zB ⟨rfl, hzB⟩
            obtain rfl : wr = zB := hzB.symm
            clear hcB
            go_wp2
            have X0 : ∀ g : Gr wr, g.w.cell? ⟨b, off + j * 5, none⟩ = some (.int .i64 y.a) := fun g => (HCY.out g.w (Ext.trans HX.out g.h)).1
            have X1 : ∀ g : Gr wr, g.w.cell? ⟨b, off + j * 5 + 1, none⟩ = some (.int .i64 y.b) := fun g => (HCY.out g.w (Ext.trans HX.out g.h)).2.1
            have KA : Hid (∀ g : Gr wr, Calls Try.prog 23 #[.slice ps ns cs, .int .i64 y.a] g.w fun e w' => e = .returned (.bool true) ∧ Ext g.w w') := Lib.hid fun g => (CA.out g.w (Ext.trans HX.out g.h)).mono fun e w' h => ⟨by rw [h.1, HBA.out], by rw [h.2]; exact Ext.refl _⟩
            have KB : Hid (∀ g : Gr wr, Calls Try.prog 23 #[.slice ps ns cs, .int .i64 y.b] g.w fun e w' => e = .returned (.bool true) ∧ Ext g.w w') := Lib.hid fun g => (CB.out g.w (Ext.trans HX.out g.h)).mono fun e w' h => ⟨by rw [h.1, HBB.out], by rw [h.2]; exact Ext.refl _⟩
            clear x0 x1 x2 x3 x4
            refine wp_region_grown (Ext.refl wr) (by kernel_rfl) (by kernel_rfl) ?_
            repeat (go_big_quiet_step (first | (go_at_call 23; with_reducible exact Gr.of (KA.out _)) | (go_at_call 23; with_reducible exact Gr.of (KB.out _))))
            refine wpQuiet_nil ?_
            intro gw
            have HG := Lib.hid gw.h
            clear X0 X1
            generalize gw.w = wg at HG ⊢
            have hyes := cut_yes GY.out (s := sd) (by rw [HBA.out, HBB.out]; rfl)
            rw [HK.out] at hyes
            have hk5 : k < n5 := by rw [H5N.out]; exact (List.getElem?_eq_some_iff.1 hyes).1
            have hk5' : (k : Int) < (n5 : Int) := by omega
            have hk5'' : decide (n5 ≤ k) = false := decide_eq_false (by omega)
            obtain ⟨b5, o5, p6, n6, c6, q6, m6, d6, hp5, y0, y1, y2, y3, y4, ty6⟩ := mg_at (sl_row HS5.out) hyes
            subst hp5
            have HGX := Lib.hid (Ext.trans HX.out HG.out)
            obtain ⟨x0, x1, x2, x3, x4⟩ := HCY.out wg HGX.out
            have Y0 : ∀ g : Gr wg, g.w.cell? _ = some _ := fun g => (Ext.trans HGX.out g.h).cell y0
            have Y1 : ∀ g : Gr wg, g.w.cell? _ = some _ := fun g => (Ext.trans HGX.out g.h).cell y1
            have Y2 : ∀ g : Gr wg, g.w.cell? _ = some _ := fun g => (Ext.trans HGX.out g.h).cell y2
            have Y3 : ∀ g : Gr wg, g.w.cell? _ = some _ := fun g => (Ext.trans HGX.out g.h).cell y3
            have Y4 : ∀ g : Gr wg, g.w.cell? _ = some _ := fun g => (Ext.trans HGX.out g.h).cell y4
            have X0 : ∀ g : Gr wg, g.w.cell? _ = some _ := fun g => g.cell x0
            have X1 : ∀ g : Gr wg, g.w.cell? _ = some _ := fun g => g.cell x1
            have X2 : ∀ g : Gr wg, g.w.cell? _ = some _ := fun g => g.cell x2
            have X3 : ∀ g : Gr wg, g.w.cell? _ = some _ := fun g => g.cell x3
            have X4 : ∀ g : Gr wg, g.w.cell? _ = some _ := fun g => g.cell x4
            have KC : Hid (∀ g : Gr wg, Calls Try.prog 16 #[.agg #[.int .i64 y.a, .int .i64 y.b, .int .i64 y.k, .slice p6 n6 c6, .slice q6 m6 d6], .agg #[.int .i64 y.a, .int .i64 y.b, .int .i64 y.k, .slice p2 n2 c2, .slice q2 m2 d2]] g.w fun e w' => e = .returned (.bool true) ∧ Ext g.w w') := Lib.hid fun g => rsame1_t (ty6.ext (Ext.trans HGX.out g.h)) (TY.out.ext (Ext.trans HGX.out g.h)) rfl
            clear x0 x1 x2 x3 x4 y0 y1 y2 y3 y4 ty6 hyes
            go_wp2
            refine wp_region_grown (Ext.refl wg) (by kernel_rfl) (by kernel_rfl) ?_
            repeat (go_big_quiet_step (first | (go_at_call 16; with_reducible exact Gr.of (KC.out _))))
            refine wpQuiet_nil ?_
            intro gw2
            have HG2 := Lib.hid gw2.h
            clear X0 X1 X2 X3 X4 Y0 Y1 Y2 Y3 Y4
            generalize gw2.w = wh at HG2 ⊢
            have HGG : Hid (Ext wr wh) := Lib.hid (Ext.trans HG.out HG2.out)
            go_wp2
            go_roundw
            case rel => exact ⟨j + 1, by go_num, by omega, by rw [cut_step GY.out, HBA.out, HBB.out, if_pos (by decide), List.length_append, HK.out]; go_num, by rw [oth_step GY.out, HBA.out, HBB.out]; simpa using HO.out.ext (HGG.out), Ext.trans HX.out HGG.out⟩
            case measure => simp [intOf]; omega
        · obtain rfl : n = j := by omega
          have hlt' : ¬ (n : Int) < (n : Int) := by omega
          have hL : l.take n = l := List.take_of_length_le (by have := HLN.out; omega)
          rw [hL] at HO ⊢
          rw [← H5N.out]
          have hnu := (sl_parts HO.out.sl).2.1
          have HE1 := Lib.hid (cut_oth l sd)
          have HE2 := Lib.hid (cut_cut l sd)
          have HE3 := Lib.hid (cut_none l)
          clear hL hx ho hnu
          go_wp2_with fail
          refine (cut_v p n c l pu nu cu _ wr (sl_row (HL5.out.ext HX.out)) (sl_row HO.out.sl) HNB.out).mono ?_
          rintro e w6 ⟨⟨v6, rfl, hs6⟩, hx6⟩
          rw [HE1.out] at hs6
          obtain ⟨p6, n6, c6, rfl, hn6⟩ := sl_form hs6
          have HS6 := Lib.hid hs6
          have HX6 := Lib.hid (Ext.trans HX.out hx6)
          clear hs6 hn6 hx6
          go_wp2_with fail
          refine (rsame_t HS6.out (HS5.out.ext HX6.out) rfl).mono ?_
          rintro e w7 ⟨rfl, hx7⟩
          have HX7 := Lib.hid (Ext.trans HX6.out hx7)
          clear hx7
          go_wp2_with fail
          refine (cut_v p5 n5 c5 _ ps ns cs sd w7 (sl_row (HS5.out.ext HX7.out)) (sl_row (HU5.out.ext HX7.out)) (by have := HNB.out; omega)).mono ?_
          rintro e w8 ⟨⟨v8, rfl, hs8⟩, hx8⟩
          rw [HE2.out] at hs8
          obtain ⟨p8, n8, c8, rfl, hn8⟩ := sl_form hs8
          have HS8 := Lib.hid hs8
          have HX8 := Lib.hid (Ext.trans HX7.out hx8)
          clear hs8 hn8 hx8
          go_wp2_with fail
          refine (rsame_t HS8.out (HS5.out.ext HX8.out) rfl).mono ?_
          rintro e w9 ⟨rfl, hx9⟩
          have HX9 := Lib.hid (Ext.trans HX8.out hx9)
          clear hx9
          go_wp2_with fail
          refine (cut_v p n c l none 0 0 [] w9 (sl_row (HL5.out.ext HX9.out)) (Lay.Row.nil _ _ _) HNB.out).mono ?_
          rintro e w10 ⟨⟨v10, rfl, hs10⟩, hx10⟩
          rw [HE3.out] at hs10
          obtain ⟨p10, n10, c10, rfl, hn10⟩ := sl_form hs10
          have HS10 := Lib.hid hs10
          have HX10 := Lib.hid (Ext.trans HX9.out hx10)
          clear hs10 hn10 hx10
          go_wp2_with fail
          refine (rsame_t HS10.out (HL5.out.ext HX10.out) rfl).mono ?_
          rintro e w11 ⟨rfl, hx11⟩
          have HX11 := Lib.hid (Ext.trans HX10.out hx11)
          clear hx11
          go_wp2
          go_ret
          exact ⟨rfl, Ext.trans HW5.out HX11.out⟩
    · have h20 : (20 : Int) < (ns : Int) := by omega
      go_wp2
      go_ret
      exact ⟨rfl, HW2.out⟩
  · clear hg
    go_wp2
    go_ret
    exact ⟨rfl, HW2.out⟩
end Go.Proofs.Ytifbmkcfgpfefaa.Wi
