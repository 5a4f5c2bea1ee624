/- Written bytes: the code's laid. -/
import Derived.Test.YtcajmgdenhegjaaWrI
import Derived.Test.YtcajmgdenhegjaaZeros
import Derived.Deep.RegionLaw
import Derived.Deep.AppendLies
namespace Go.Proofs.Ytcajmgdenhegjaa.Wr
open Go.RowKit Go.Proofs.Ytcajmgdenhegjaa
set_option linter.unusedVariables false

theorem pc_box {w w2 : World} {a f : Int} {s : Value} {t : TypeId} (h : Ext (w.alloc (.cells #[.int .i64 a, .int .i64 f, s] t)) w2) :
    w2.cell? ⟨w.heap.size, 0, none⟩ = some (.int .i64 a) ∧ w2.cell? ⟨w.heap.size, 1, none⟩ = some (.int .i64 f) ∧ w2.cell? ⟨w.heap.size, 2, none⟩ = some s :=
  ⟨h.cell (by rw [cell_of_row _ _ _ _ _ _ (heap_alloc_new w _)]; rfl), h.cell (by rw [cell_of_row _ _ _ _ _ _ (heap_alloc_new w _)]; rfl), h.cell (by rw [cell_of_row _ _ _ _ _ _ (heap_alloc_new w _)]; rfl)⟩
/-- a piece that can be laid -/
def Pc.Ok (x : Pc) : Prop := 0 ≤ x.f ∧ x.d ≠ [] ∧ x.e ≤ 4096
theorem Pc.Right.ok {x : Pc} (h : x.Right) : x.Ok := h.2
def layAll (ps : List Pc) (F : List Int) : List Int := ps.foldl layP F
theorem layAll_succ {ps : List Pc} {j : Nat} {x : Pc} (h : ps[j]? = some x) (F : List Int) : layAll (ps.take (j + 1)) F = layP (layAll (ps.take j) F) x := by
  unfold layAll
  rw [List.take_add_one, h]
  show List.foldl layP F (ps.take j ++ [x]) = _
  rw [List.foldl_append]; rfl
theorem layAll_len (ps : List Pc) (F : List Int) (h : ∀ x ∈ ps, x.Ok) : (layAll ps F).length ≤ max F.length 4096 := by
  induction ps generalizing F with
  | nil => show F.length ≤ _; omega
  | cons x ps ih =>
    have h1 := ih (layP F x) (fun y hy => h y (by simp [hy]))
    have h2 : (layP F x).length = max F.length (x.f.toNat + x.d.length) := layL_length _ _ _
    have h3 := h x (by simp)
    have h4 := h3.2.2
    have h5 := h3.1
    unfold Pc.e at h4
    show (layAll ps (layP F x)).length ≤ _
    omega
theorem see_all (l : List Pc) (n : Int) (F : List Int) : layAll (l.filter (fun x => decide (x.i = n))) F = seeL l n F := rfl
theorem ends_of {x : Pc} (h : x.Ok) : endsB x = true := by
  unfold endsB
  obtain ⟨h1, h2, h3⟩ := h
  unfold Pc.e at h3
  exact decide_eq_true ⟨h1, by omega⟩
def RLaidC (w0 : World) (ps : List Pc) (F : List Int) (n : Nat) (o i : Value) (wr : World) : Prop :=
  ∃ j : Nat, i = .int .i64 j ∧ j ≤ n ∧ (Lay.int .u8).Own wr w0.heap.size 5 o (layAll (ps.take j) F) ∧ Ext w0 wr
theorem rowsize_u8 : (Try.prog.info? 5).map (·.size) = some 1 := by kernel_rfl
theorem lay_pad (G : List Int) (k : Nat) (d : List Int) (m : Nat) (hm : d.length = m) : layL G k d = (padL G (k + m)).take k ++ d.take m ++ (padL G (k + m)).drop (k + m) := by
  subst hm
  rw [List.take_length]; rfl
set_option maxRecDepth 100000 in
set_option maxHeartbeats 4000000 in
theorem laid_v (u : Value) (F : List Int) (ps : List Pc) (p : Option Addr) (n c : Nat) (w : World) (hu : (Lay.int .u8).Sl w u F) (hl : LPc.Row w p n ps) (hok : ∀ x ∈ ps, x.Ok) (hF : F.length ≤ 10000) :
    Calls Try.prog 30 #[u, .slice p n c] w fun e w' => (∃ v, e = .returned v ∧ (Lay.int .u8).Own w' w.heap.size 5 v (layAll ps F)) ∧ Ext w w' := by
  obtain ⟨i0, hi0, hzi0, hzi1, hzi2⟩ := info_parts info_u8
  have HF := Lib.hid hF
  have HP := Lib.hid hl
  have HOK := Lib.hid hok
  have hn := hl.2.1
  have hcl := clone_v u F w hu (by omega)
  clear hl hok hF hu
  go_enter Try.func30, Try.ntmps30
  go_wp2_with fail
  refine hcl.mono ?_
  rintro e w1 ⟨⟨v, rfl, hv⟩, hx1⟩
  have HV := Lib.hid hv
  have HX1 := Lib.hid hx1
  clear hv hcl
  go_wp2
  go_loopw [5, 13] (fun o i wr => RLaidC w ps F n o i wr) (fun o i _ => n - (intOf i).toNat)
  case atStart => exact ⟨0, rfl, by omega, HV.out, HX1.out⟩
  case round =>
    obtain ⟨j, rfl, hj, ho, hx⟩ := hrel
    have HX := Lib.hid hx
    by_cases hlt : j < n
    · have hlt' : (j : Int) < (n : Int) := by omega
      have hlt0 : (0 : Int) ≤ (j : Int) := by omega
      obtain ⟨x, gx⟩ : ∃ x, ps[j]? = some x := ⟨_, List.getElem?_eq_getElem (by rw [HP.out.1]; exact hlt)⟩
      obtain ⟨b, off, p1, n1, c1, rfl, x0, x1, x2, tx⟩ := pc_at HP.out gx
      replace x0 := hx.cell x0
      replace x1 := hx.cell x1
      replace x2 := hx.cell x2
      have hxr := HOK.out x (List.mem_of_getElem? gx)
      obtain ⟨k, hk⟩ : ∃ k : Nat, x.f = (k : Int) := ⟨x.f.toNat, by have := hxr.1; omega⟩
      have hn1 : x.d.length = n1 := tx.row.1
      have hn0 : 0 < n1 := by rw [← hn1]; exact List.length_pos_iff.2 hxr.2.1
      have hkn : k + n1 ≤ 4096 := by have h1 := hxr.2.2; unfold Pc.e at h1; omega
      obtain ⟨T, hT⟩ : ∃ T, k + n1 = T := ⟨_, rfl⟩
      have hE : x.e = (T : Int) := by unfold Pc.e; omega
      have HTT := Lib.hid hT
      have hTb : T ≤ 4096 := by omega
      have hkT : k < T := by omega
      have GX := Lib.hid gx
      have HT := Lib.hid tx
      have HN1 := Lib.hid hn1
      have HTR : Hid (∀ W g, Ext w W → (Lay.int .u8).RowK W (some g) p1 n1 x.d) := Lib.hid fun W g hW => plain_u8.row (tx.row.ext hW)
      have HOK1 := Lib.hid hxr
      have HK := Lib.hid hk
      have hends : ∀ W, Ext wr W → Calls Try.prog 31 #[.agg #[.int .i64 x.i, .int .i64 k, .slice p1 n1 c1]] W fun e w' => e = .returned (.bool true) ∧ Ext W w' := fun W hW => by
        have h := ends_any x p1 n1 c1 W (by have := tx; exact ⟨rfl, this.wa, this.wb, this.row.ext (Ext.trans hx hW), this.nc, this.cm, this.pl⟩)
        rw [ends_of hxr, hk] at h
        exact h
      have hend : ∀ W, Ext wr W → Calls Try.prog 38 #[.agg #[.int .i64 x.i, .int .i64 k, .slice p1 n1 c1]] W fun e w' => e = .returned (.int .i64 (T : Int)) ∧ Ext W w' := fun W hW => by
        have h := end_any x p1 n1 c1 W (by have := tx; exact ⟨rfl, this.wa, this.wb, this.row.ext (Ext.trans hx hW), this.nc, this.cm, this.pl⟩) (by omega) (by rw [hE]; omega)
        rw [hE, hk] at h
        exact h
      have HEN := Lib.hid hends
      have HED := Lib.hid hend
      obtain ⟨G, hG⟩ : ∃ G, layAll (ps.take j) F = G := ⟨_, rfl⟩
      have HG := Lib.hid hG
      have hGL : G.length ≤ 10000 := by
        have := layAll_len (ps.take j) F (fun y hy => HOK.out y (List.mem_of_mem_take hy))
        rw [hG] at this
        have := HF.out
        omega
      rw [hG] at ho
      obtain ⟨L, hL⟩ : ∃ L, G.length = L := ⟨_, rfl⟩
      have HL := Lib.hid hL
      have hLb : L ≤ 10000 := by omega
      obtain ⟨p5, c5, rfl, hr5⟩ := own_open ho
      rw [hL] at ho ⊢
      have HO := Lib.hid ho
      rw [hk] at x1
      have hxA : Ext wr (wr.alloc (.cells #[.int .i64 x.i, .int .i64 k, .slice p1 n1 c1] 30)) := Ext.alloc _ _
      clear hends hend gx tx hn1 hxr hk hE hG hGL hL ho hr5 hT hkn
      have hkc : (0 : Int) ≤ (k : Int) := by omega
      have hkN : (k : Int) ≤ 4096 := by omega
      by_cases hm : L < T
      · obtain ⟨M, hM⟩ : ∃ M, T - L = M := ⟨_, rfl⟩
        have HM := Lib.hid hM
        have hm2 : (T : Int) - (L : Int) = (M : Int) := by omega
        have hm1 : (0 : Int) < (M : Int) := by omega
        have hm3 : 0 < M ∧ M ≤ 4096 := by omega
        clear hM
        go_wp2_with fail
        refine (HEN.out _ hxA).mono ?_
        rintro e w2 ⟨rfl, hx2⟩
        have hxB := Ext.trans hxA hx2
        obtain ⟨f0, f1, f2⟩ := pc_box hx2
        clear hx2
        go_wp2_with fail
        refine (HED.out _ hxB).mono ?_
        rintro e w3 ⟨rfl, hx3⟩
        have hxC := Ext.trans hxB hx3
        have d0 := hx3.cell f0
        have d1 := hx3.cell f1
        have d2 := hx3.cell f2
        have HXC := Lib.hid hxC
        clear hx3 f0 f1 f2 hxA hxB
        have HOA := Lib.hid (HO.out.ext hxC)
        have HXW0 := Lib.hid (Ext.trans HX.out hxC)
        clear hxC
        go_wp2_with (at_builtin; refine Lay.wpList_append_zeros (E := Lay.int .u8) rfl (.tmp 27) (.tmp 28) 23 3 rfl w.heap.size 5 i0 (.int .u8 0) 0 .i64 .i64 1 Try.underlying23 Try.underlying3 hi0 hzi0 hzi1 hzi2 rfl (by decide) (fun _ => ⟨rfl, by decide⟩) (.slice p5 L c5) G rfl HOA.out M rfl hm3.1 (by rw [HL.out]; unfold maxLen; omega) (by rw [HL.out]; omega) (by have := HXW0.out.size; omega) ?_; intro v6 w6 hown6 hg6 _)
        have hpad : G ++ List.replicate M 0 = padL G T := by unfold padL; rw [HL.out, HM.out]
        rw [hpad] at hown6
        have hnb : some wr.heap.size ≠ Value.ownBlock (.slice p5 L c5) := fun e => by have := (HO.out.lt _ e.symm).2; omega
        have HXW := Lib.hid (HOA.out.below HXW0.out (Nat.le_refl _) hg6)
        have e1 := (hg6.cell_far ⟨wr.heap.size, 1, none⟩ (World.block_lt_of_cell? _ _ d1) hnb).trans d1
        have e2 := (hg6.cell_far ⟨wr.heap.size, 2, none⟩ (World.block_lt_of_cell? _ _ d2) hnb).trans d2
        have hpl : (padL G T).length = T := by rw [padL_length, HL.out]; omega
        obtain ⟨p8, c8, rfl, _⟩ := own_open hown6
        rw [hpl] at hown6 ⊢
        obtain ⟨N, hN⟩ : ∃ N, T = N := ⟨_, rfl⟩
        have HNN := Lib.hid hN
        have HN4 : Hid ((padL G T).length = N) := Lib.hid (by rw [hpl, hN])
        have HO4 : Hid ((Lay.int .u8).Own w6 w.heap.size 5 (.slice p8 N c8) (padL G T)) := Lib.hid (by rw [← hN]; exact hown6)
        rw [hN]
        have hNk : T ≤ N := by omega
        clear hown6 hg6 hpad hnb hpl hN d0 d1 d2
        obtain ⟨g, rfl⟩ : ∃ g, p8 = some ⟨g, 0, none⟩ := by
          rcases HO4.out.form with e | ⟨g, c9, e, _⟩
          · injection e with e1 e2 e3; omega
          · injection e with e1 e2 e3; exact ⟨g, e1⟩
        have hcap : N ≤ c8 := by
          rcases HO4.out.form with e | ⟨g, c9, e, h⟩
          · cases e
          · injection e with e1 e2 e3; rw [e3]; rw [HN4.out] at h; exact h
        have hcap0 : k < c8 := by omega
        have hkN1 : (k : Int) ≤ (N : Int) := by omega
        have hcutk : cutP (some ⟨g, 0, none⟩) c8 k 1 = some ⟨g, k, none⟩ := by simp only [cutP, if_neg (Nat.ne_of_gt hcap0), Option.map_some, addN, Nat.mul_one, Nat.zero_add]
        have hsl : ∀ W, (Instr.slice 23 (.slice (some ⟨g, 0, none⟩) N c8) (some (.int .i64 (k : Int))) none none).run Try.prog W = .ok (.slice (some ⟨g, k, none⟩) (N - k) (c8 - k)) W := fun W => by
          have h := run_cut_from (P := Try.prog) (t := 23) (e := 5) Try.underlying23 rowsize_u8 (some ⟨g, 0, none⟩) N c8 k (k : Int) rfl (by omega) hcap W
          rw [hcutk] at h
          exact h
        clear hcutk
        go_region_law (refine Lay.step_copy (E := Lay.int .u8) (by simp [Region.wanted]) (.tmp 33) (.tmp 35) 23 23 rfl w.heap.size 5 i0 Try.underlying23 hi0 hzi1 g N c8 k (N - k) (c8 - k) (padL G T) (HO4.out.ext (Ext.drew (Ext.refl _))) HN4.out k (by show k = k * 1; omega) (by simp [Act.eval, Act.put]) p1 n1 c1 n1 x.d (by simp [Act.eval, Act.put]) (HTR.out _ g (Ext.drew HXW.out)) (by have := HTT.out; omega) hn0 (by have := HTT.out; omega) ?_; intro w7 hown7 hg7)
        all_goals
          have HXF : Hid (Ext w w7) := Lib.hid (HO4.out.below HXW.out (Nat.le_refl _) (Lay.grown_trans (Lay.grown_ext (Ext.drew (Ext.refl _)) _) hg7))
          have hlay : (padL G T).take k ++ x.d.take n1 ++ (padL G T).drop (k + n1) = layL G k x.d := by have h := lay_pad G k x.d n1 HN1.out; rw [HTT.out] at h; rw [HTT.out]; exact h.symm
          rw [hlay] at hown7
          have HO7 := Lib.hid hown7
          clear hown7 hg7 hsl
          go_wp2
          go_roundw
          case rel => exact ⟨j + 1, by go_num, by omega, by rw [layAll_succ GX.out, HG.out]; have h := HO7.out; have e : layP G x = layL G k x.d := (by unfold layP; rw [HK.out]; rfl); rw [e]; exact h, HXF.out⟩
          case measure => simp [intOf]; omega
      · have hm1 : ¬ (0 : Int) < (T : Int) - (L : Int) := by omega
        go_wp2_with fail
        refine (HEN.out _ hxA).mono ?_
        rintro e w2 ⟨rfl, hx2⟩
        have hxB := Ext.trans hxA hx2
        obtain ⟨f0, f1, f2⟩ := pc_box hx2
        clear hx2
        go_wp2_with fail
        refine (HED.out _ hxB).mono ?_
        rintro e w3 ⟨rfl, hx3⟩
        have hxC := Ext.trans hxB hx3
        have d0 := hx3.cell f0
        have d1 := hx3.cell f1
        have d2 := hx3.cell f2
        have HXC := Lib.hid hxC
        clear hx3 f0 f1 f2 hxA hxB
        have HXW := Lib.hid (Ext.trans HX.out hxC)
        have hpd : padL G T = G := padL_same (by rw [HL.out]; omega)
        obtain ⟨N, hN⟩ : ∃ N, L = N := ⟨_, rfl⟩
        have HN4 : Hid ((padL G T).length = N) := Lib.hid (by rw [hpd, HL.out, hN])
        have HO4 : Hid ((Lay.int .u8).Own w3 w.heap.size 5 (.slice p5 N c5) (padL G T)) := Lib.hid (by rw [← hN, hpd]; exact HO.out.ext hxC)
        have hNk : T ≤ N := by omega
        subst hN
        clear hpd
        go_wp2
        obtain ⟨g, rfl⟩ : ∃ g, p5 = some ⟨g, 0, none⟩ := by
          rcases HO4.out.form with e | ⟨g, c9, e, _⟩
          · injection e with e1 e2 e3; omega
          · injection e with e1 e2 e3; exact ⟨g, e1⟩
        have hcap : L ≤ c5 := by
          rcases HO4.out.form with e | ⟨g, c9, e, h⟩
          · cases e
          · injection e with e1 e2 e3; rw [e3]; rw [HN4.out] at h; exact h
        have hcap0 : k < c5 := by omega
        have hkN1 : (k : Int) ≤ (L : Int) := by omega
        have hcutk : cutP (some ⟨g, 0, none⟩) c5 k 1 = some ⟨g, k, none⟩ := by simp only [cutP, if_neg (Nat.ne_of_gt hcap0), Option.map_some, addN, Nat.mul_one, Nat.zero_add]
        have hsl : ∀ W, (Instr.slice 23 (.slice (some ⟨g, 0, none⟩) L c5) (some (.int .i64 (k : Int))) none none).run Try.prog W = .ok (.slice (some ⟨g, k, none⟩) (L - k) (c5 - k)) W := fun W => by
          have h := run_cut_from (P := Try.prog) (t := 23) (e := 5) Try.underlying23 rowsize_u8 (some ⟨g, 0, none⟩) L c5 k (k : Int) rfl (by omega) hcap W
          rw [hcutk] at h
          exact h
        clear hcutk
        go_region_law (refine Lay.step_copy (E := Lay.int .u8) (by simp [Region.wanted]) (.tmp 33) (.tmp 35) 23 23 rfl w.heap.size 5 i0 Try.underlying23 hi0 hzi1 g L c5 k (L - k) (c5 - k) (padL G T) (HO4.out.ext (Ext.drew (Ext.refl _))) HN4.out k (by show k = k * 1; omega) (by simp [Act.eval, Act.put]) p1 n1 c1 n1 x.d (by simp [Act.eval, Act.put]) (HTR.out _ g (Ext.drew HXW.out)) (by have := HTT.out; omega) hn0 (by have := HTT.out; omega) ?_; intro w7 hown7 hg7)
        all_goals
          have HXF : Hid (Ext w w7) := Lib.hid (HO4.out.below HXW.out (Nat.le_refl _) (Lay.grown_trans (Lay.grown_ext (Ext.drew (Ext.refl _)) _) hg7))
          have hlay : (padL G T).take k ++ x.d.take n1 ++ (padL G T).drop (k + n1) = layL G k x.d := by have h := lay_pad G k x.d n1 HN1.out; rw [HTT.out] at h; rw [HTT.out]; exact h.symm
          rw [hlay] at hown7
          have HO7 := Lib.hid hown7
          clear hown7 hg7 hsl
          go_wp2
          go_roundw
          case rel => exact ⟨j + 1, by go_num, by omega, by rw [layAll_succ GX.out, HG.out]; have h := HO7.out; have e : layP G x = layL G k x.d := (by unfold layP; rw [HK.out]; rfl); rw [e]; exact h, HXF.out⟩
          case measure => simp [intOf]; omega
    · obtain rfl : j = n := by omega
      have HO := Lib.hid ho
      clear ho hx
      go_wp2
      go_ret
      exact ⟨⟨_, rfl, by have := HO.out; rw [List.take_of_length_le (by rw [HP.out.1]; omega)] at this; exact this⟩, HX.out⟩
end Go.Proofs.Ytcajmgdenhegjaa.Wr
