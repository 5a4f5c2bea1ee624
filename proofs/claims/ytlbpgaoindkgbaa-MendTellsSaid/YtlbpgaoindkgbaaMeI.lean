/- Jobs: renewed; how many steps. -/
import Derived.Test.YtlbpgaoindkgbaaMeH
import Derived.StillTailTactics
namespace Go.Proofs.Ytlbpgaoindkgbaa.Me
open Go.RowKit Go.Proofs.Ytlbpgaoindkgbaa Go.Sort
set_option linter.unusedVariables false

set_option maxRecDepth 100000 in
set_option maxHeartbeats 4000000 in
theorem of_any (i t : Int) (x : Jb) (w : World) : Calls Try.prog 33 #[.agg #[.int .i64 i, .int .i64 t], .agg #[.int .i64 x.i, .int .i64 x.v, .int .i64 x.f, .int .i64 x.t, .int .i64 x.h, .int .i64 x.l]] w fun e w' => e = .returned (.bool (decide (x.i = i ∧ x.t = t))) ∧ Ext w w' := by
  have d0 : ∀ g : Gr ((w.alloc (.cells #[.int .i64 i, .int .i64 t] 46)).alloc (.cells #[.int .i64 x.i, .int .i64 x.v, .int .i64 x.f, .int .i64 x.t, .int .i64 x.h, .int .i64 x.l] 33)), g.w.cell? ⟨w.heap.size, 0, none⟩ = some (.int .i64 i) := fun g => g.cell ((Ext.alloc _ _).cell (cell_of_row _ _ 0 _ _ _ (heap_alloc_new w _)))
  have d1 : ∀ g : Gr ((w.alloc (.cells #[.int .i64 i, .int .i64 t] 46)).alloc (.cells #[.int .i64 x.i, .int .i64 x.v, .int .i64 x.f, .int .i64 x.t, .int .i64 x.h, .int .i64 x.l] 33)), g.w.cell? ⟨w.heap.size, 1, none⟩ = some (.int .i64 t) := fun g => g.cell ((Ext.alloc _ _).cell (cell_of_row _ _ 1 _ _ _ (heap_alloc_new w _)))
  have f0 : ∀ g : Gr ((w.alloc (.cells #[.int .i64 i, .int .i64 t] 46)).alloc (.cells #[.int .i64 x.i, .int .i64 x.v, .int .i64 x.f, .int .i64 x.t, .int .i64 x.h, .int .i64 x.l] 33)), g.w.cell? ⟨w.heap.size + 1, 0, none⟩ = some (.int .i64 x.i) := fun g => g.cell (by simp)
  have f1 : ∀ g : Gr ((w.alloc (.cells #[.int .i64 i, .int .i64 t] 46)).alloc (.cells #[.int .i64 x.i, .int .i64 x.v, .int .i64 x.f, .int .i64 x.t, .int .i64 x.h, .int .i64 x.l] 33)), g.w.cell? ⟨w.heap.size + 1, 1, none⟩ = some (.int .i64 x.v) := fun g => g.cell (by simp)
  have f2 : ∀ g : Gr ((w.alloc (.cells #[.int .i64 i, .int .i64 t] 46)).alloc (.cells #[.int .i64 x.i, .int .i64 x.v, .int .i64 x.f, .int .i64 x.t, .int .i64 x.h, .int .i64 x.l] 33)), g.w.cell? ⟨w.heap.size + 1, 2, none⟩ = some (.int .i64 x.f) := fun g => g.cell (by simp)
  have f3 : ∀ g : Gr ((w.alloc (.cells #[.int .i64 i, .int .i64 t] 46)).alloc (.cells #[.int .i64 x.i, .int .i64 x.v, .int .i64 x.f, .int .i64 x.t, .int .i64 x.h, .int .i64 x.l] 33)), g.w.cell? ⟨w.heap.size + 1, 3, none⟩ = some (.int .i64 x.t) := fun g => g.cell (by simp)
  have f4 : ∀ g : Gr ((w.alloc (.cells #[.int .i64 i, .int .i64 t] 46)).alloc (.cells #[.int .i64 x.i, .int .i64 x.v, .int .i64 x.f, .int .i64 x.t, .int .i64 x.h, .int .i64 x.l] 33)), g.w.cell? ⟨w.heap.size + 1, 4, none⟩ = some (.int .i64 x.h) := fun g => g.cell (by simp)
  have f5 : ∀ g : Gr ((w.alloc (.cells #[.int .i64 i, .int .i64 t] 46)).alloc (.cells #[.int .i64 x.i, .int .i64 x.v, .int .i64 x.f, .int .i64 x.t, .int .i64 x.h, .int .i64 x.l] 33)), g.w.cell? ⟨w.heap.size + 1, 5, none⟩ = some (.int .i64 x.l) := fun g => g.cell (by simp)
  by_cases h1 : x.i = i
  · have e1 : (x.i == i) = true := by simp [h1]
    by_cases h2 : x.t = t
    · have e2 : (x.t == t) = true := by simp [h2]
      have he : decide (x.i = i ∧ x.t = t) = true := decide_eq_true ⟨h1, h2⟩
      clear h1 h2
      go_enter Try.func33, Try.ntmps33
      go_wp2
      refine wp_region_grown (w0 := (w.alloc (.cells #[.int .i64 i, .int .i64 t] 46)).alloc (.cells #[.int .i64 x.i, .int .i64 x.v, .int .i64 x.f, .int .i64 x.t, .int .i64 x.h, .int .i64 x.l] 33)) (Ext.refl _) (by kernel_rfl) (by kernel_rfl) ?_
      repeat (go_big_quiet_step (first | (go_at_call 29; exact Gr.of (target_any x _))))
      refine wpQuiet_nil ?_
      intro gw
      go_wp2
      go_ret
      exact ⟨by rw [he]; rfl, Ext.trans (Ext.trans (Ext.alloc _ _) (Ext.alloc _ _)) gw.h⟩
    · have e2 : (x.t == t) = false := by simp [h2]
      have he : decide (x.i = i ∧ x.t = t) = false := decide_eq_false (fun h => h2 h.2)
      clear h1 h2
      go_enter Try.func33, Try.ntmps33
      go_wp2
      refine wp_region_grown (w0 := (w.alloc (.cells #[.int .i64 i, .int .i64 t] 46)).alloc (.cells #[.int .i64 x.i, .int .i64 x.v, .int .i64 x.f, .int .i64 x.t, .int .i64 x.h, .int .i64 x.l] 33)) (Ext.refl _) (by kernel_rfl) (by kernel_rfl) ?_
      repeat (go_big_quiet_step (first | (go_at_call 29; exact Gr.of (target_any x _))))
      refine wpQuiet_nil ?_
      intro gw
      go_wp2
      go_ret
      exact ⟨by rw [he]; rfl, Ext.trans (Ext.trans (Ext.alloc _ _) (Ext.alloc _ _)) gw.h⟩
  · have e1 : (x.i == i) = false := by simp [h1]
    have he : decide (x.i = i ∧ x.t = t) = false := decide_eq_false (fun h => h1 h.1)
    clear h1
    go_enter Try.func33, Try.ntmps33
    go_wp2
    refine wp_region_grown (w0 := (w.alloc (.cells #[.int .i64 i, .int .i64 t] 46)).alloc (.cells #[.int .i64 x.i, .int .i64 x.v, .int .i64 x.f, .int .i64 x.t, .int .i64 x.h, .int .i64 x.l] 33)) (Ext.refl _) (by kernel_rfl) (by kernel_rfl) ?_
    repeat (go_big_quiet_step (first | (go_at_call 29; exact Gr.of (target_any x _))))
    refine wpQuiet_nil ?_
    intro gw
    go_wp2
    go_ret
    exact ⟨by rw [he]; rfl, Ext.trans (Ext.trans (Ext.alloc _ _) (Ext.alloc _ _)) gw.h⟩
set_option maxRecDepth 100000 in
set_option maxHeartbeats 4000000 in
theorem idxf_v (u : Value) (l : List Jb) (i t : Int) (w : World) (hu : LJb.Sl w u l) : Calls Try.prog 32 #[u, .func (.func 33) #[.agg #[.int .i64 i, .int .i64 t]] #[]] w fun e w' => e = .returned (.int .i64 (idxI l i t)) ∧ Ext w w' := by
  obtain ⟨p, n, c, rfl, hl, _, _, _⟩ := hu
  have HP := Lib.hid hl
  have hn := hl.2.1
  clear hl
  have eg : ∀ args w, (callFunc 33 args).run Try.prog w = .ok (.enter 33 args) w := enters_of Try.func33 (by kernel_rfl) rfl
  go_enter Try.func32, Try.ntmps32
  go_wp2
  go_loopw [5, 8] (fun _ ix wr => AlikeR w l i t n ix wr) (fun _ ix _ => n - (intOf ix).toNat)
  case atStart => exact ⟨0, rfl, by omega, Lib.hid (by intro j hj; omega), Ext.refl _⟩
  case round =>
    obtain ⟨j, rfl, hj, HE, hx⟩ := hrel
    by_cases hlt : j < n
    · have hlt' : (j : Int) < (n : Int) := by omega
      have hlt0 : (0 : Int) ≤ (j : Int) := by omega
      obtain ⟨y, gy⟩ := get_of l j (by rw [HP.out.1]; exact hlt)
      obtain ⟨b, off, rfl, _, y0, y1, y2, y3, y4, y5⟩ := jb_at (HP.out.ext hx) gy
      have GY := Lib.hid gy
      have HX := Lib.hid hx
      clear gy hx
      go_wp2_with fail
      refine (of_any i t y _).mono ?_
      rintro e w2 ⟨rfl, hx2⟩
      have HX2 := Lib.hid (Ext.trans HX.out hx2)
      clear hx2 y0 y1 y2 y3 y4 y5
      by_cases hy : y.i = i ∧ y.t = t
      · have HR : Hid (idxI l i t = (j : Int)) := Lib.hid (idx_at HE.out GY.out hy)
        rw [decide_eq_true hy]
        clear hy
        go_wp2
        go_ret
        exact ⟨by rw [HR.out]; rfl, HX2.out⟩
      · rw [decide_eq_false hy]
        have Hy := Lib.hid hy
        clear hy
        go_wp2
        go_roundw
        case rel => exact ⟨j + 1, by go_num, by omega, Lib.hid (fun s hs z hz => by
          by_cases e : s = j
          · subst e; rw [GY.out] at hz; injection hz with hz; subst hz; exact Hy.out
          · exact HE.out s (by omega) z hz), HX2.out⟩
        case measure => simp [intOf]; omega
    · obtain rfl : j = n := by omega
      have HR : Hid (idxI l i t = -1) := Lib.hid (idx_none fun s z hz => HE.out s (by have := (List.getElem?_eq_some_iff.1 hz).1; have := HP.out.1; omega) z hz)
      go_wp2
      go_ret
      exact ⟨by rw [HR.out]; rfl, hx⟩
def stepsI (l : List Jb) (b : Int) : Int := if totI l = 0 then 0 else if b < 1 then -1 else if 0 < totI l % b then totI l / b + 1 else totI l / b
def StepsR (w : World) (l : List Jb) (n : Nat) (v i : Value) (wr : World) : Prop := ∃ k : Nat, i = .int .i64 k ∧ k ≤ n ∧ v = .int .i64 (totI (l.take k)) ∧ Ext w wr
set_option maxRecDepth 100000 in
set_option maxHeartbeats 4000000 in
theorem steps_v (u : Value) (l : List Jb) (bud : Int) (w : World) (hu : LJb.Sl w u l) (hs : SmallL l) (hn : l.length ≤ 1000) (hb : (Lit.int .i64 bud).wf = true) : Calls Try.prog 20 #[u, .int .i64 bud] w fun e w' => e = .returned (.int .i64 (stepsI l bud)) ∧ Ext w w' := by
  obtain ⟨p, n, c, rfl, hl, _, _, _⟩ := hu
  have HP := Lib.hid hl
  have HS := Lib.hid hs
  have HN : Hid (n ≤ 1000) := Lib.hid (by rw [← hl.1]; exact hn)
  have hb2 : -9223372036854775808 ≤ bud ∧ bud ≤ 9223372036854775807 := by
    simp [Lit.wf, IntKind.min, IntKind.max, IntKind.signed, IntKind.bits] at hb
    exact hb
  clear hl hs hn hb
  go_enter Try.func20, Try.ntmps20
  go_wp2
  go_loopw [5, 7, 10] (fun v _ i wr => StepsR w l n v i wr) (fun _ _ i _ => n - (intOf i).toNat)
  case atStart => exact ⟨0, rfl, by omega, rfl, Ext.refl _⟩
  case round =>
    obtain ⟨j, rfl, hj, rfl, hx⟩ := hrel
    by_cases hlt : j < n
    · have hlt' : (j : Int) < (n : Int) := by omega
      have hlt0 : (0 : Int) ≤ (j : Int) := by omega
      obtain ⟨y, gy⟩ := get_of l j (by rw [HP.out.1]; exact hlt)
      obtain ⟨b, off, rfl, _, y0, y1, y2, y3, y4, y5⟩ := jb_at (HP.out.ext hx) gy
      have hb := tot_bd (small_take HS.out j)
      have hy := HS.out y (List.mem_of_getElem? gy)
      have hlen : ((l.take j).length : Int) ≤ 1000 := by have := HN.out; simp; omega
      have HT : Hid (totI (l.take (j + 1)) = totI (l.take j) + y.l) := Lib.hid (tot_snoc l j y gy)
      obtain ⟨T, hT⟩ : ∃ T, totI (l.take j) = T := ⟨_, rfl⟩
      rw [hT] at hb HT ⊢
      obtain ⟨hb0, hb1⟩ := hb
      obtain ⟨hy0, hy1⟩ := hy
      have HX := Lib.hid (Ext.trans hx (Ext.alloc wr (.cells #[.int .i64 y.i, .int .i64 y.v, .int .i64 y.f, .int .i64 y.t, .int .i64 y.h, .int .i64 y.l] 33)))
      clear gy hT hx
      go_wp2
      go_roundw
      case rel => exact ⟨j + 1, by go_num, by omega, by rw [HT.out], HX.out⟩
      case measure => simp [intOf]; omega
    · obtain rfl : j = n := by omega
      have HE : Hid (l.take j = l) := Lib.hid (List.take_of_length_le (by rw [HP.out.1]; omega))
      have hb := tot_bd HS.out
      have hlen : (l.length : Int) ≤ 1000 := by have := HN.out; have := HP.out.1; omega
      rw [HE.out]
      obtain ⟨T, hT⟩ : ∃ T, totI l = T := ⟨_, rfl⟩
      have HTT := Lib.hid hT
      rw [hT] at hb ⊢
      obtain ⟨hb0, hb1⟩ := hb
      clear hT
      have HX := Lib.hid hx
      clear hx
      by_cases h0 : T = 0
      · have e : Hid (stepsI l bud = 0) := Lib.hid (by unfold stepsI; rw [HTT.out, if_pos h0])
        subst h0
        go_wp2
        go_ret
        exact ⟨by rw [e.out]; rfl, HX.out⟩
      have hT0 : (T == 0) = false := by simp [h0]
      by_cases h1 : bud < 1
      · have e : Hid (stepsI l bud = -1) := Lib.hid (by unfold stepsI; rw [HTT.out, if_neg h0, if_pos h1])
        have hd1 : decide (bud < 1) = true := decide_eq_true h1
        clear h1 h0
        go_wp2
        go_ret
        exact ⟨by rw [e.out]; rfl, HX.out⟩
      have hd1 : decide (bud < 1) = false := decide_eq_false h1
      have hne : ¬ bud = 0 := by omega
      have hq0 : 0 ≤ T / bud := Int.ediv_nonneg (by omega) (by omega)
      have hq1 : T / bud ≤ T := Int.ediv_le_self _ (by omega)
      have hr0 : 0 ≤ T % bud := Int.emod_nonneg _ hne
      have hr1 : T % bud < bud := Int.emod_lt_of_pos _ (by omega)
      by_cases h2 : 0 < T % bud
      · have e : Hid (stepsI l bud = T / bud + 1) := Lib.hid (by unfold stepsI; rw [HTT.out, if_neg h0, if_neg h1, if_pos h2])
        have hd2 : decide (0 < T % bud) = true := decide_eq_true h2
        go_wp2
        go_ret
        exact ⟨by rw [e.out]; rfl, HX.out⟩
      · have e : Hid (stepsI l bud = T / bud) := Lib.hid (by unfold stepsI; rw [HTT.out, if_neg h0, if_neg h1, if_neg h2])
        have hd2 : decide (0 < T % bud) = false := decide_eq_false h2
        go_wp2
        go_ret
        exact ⟨by rw [e.out]; rfl, HX.out⟩
def renewJ (l : List Jb) (x : Jb) : Jb := match l[(idxI l x.i x.t).toNat]? with
  | some y => if 0 ≤ idxI l x.i x.t ∧ y.v = x.v then setl x (min x.l y.l) else x
  | none => x
def renewL (l p : List Jb) : List Jb := p.map (renewJ l)
def RenR (w w1 : World) (l p : List Jb) (n : Nat) (v : Value) (i : Value) (wr : World) : Prop := ∃ k : Nat, i = .int .i64 k ∧ k ≤ n ∧ Hid (LJb.Own wr w.heap.size 33 v ((p.take k).map (renewJ l) ++ p.drop k)) ∧ Ext w wr ∧ Hid (Ext w wr)
theorem ren_step (l p : List Jb) (k : Nat) (x : Jb) (h : p[k]? = some x) : ((p.take k).map (renewJ l) ++ p.drop k).set k (renewJ l x) = (p.take (k + 1)).map (renewJ l) ++ p.drop (k + 1) := by
  obtain ⟨hl, e⟩ := List.getElem?_eq_some_iff.1 h
  rw [List.take_add_one, h, List.drop_eq_getElem_cons hl]
  rw [List.set_append_right _ _ (by simp; omega)]
  have : k - ((p.take k).map (renewJ l)).length = 0 := by simp; omega
  rw [this]
  simp
  rw [List.drop_eq_getElem_cons hl]; rfl
theorem ren_get (l p : List Jb) (k : Nat) : ((p.take k).map (renewJ l) ++ p.drop k)[k]? = p[k]? := by
  by_cases h : k < p.length
  · rw [List.getElem?_append_right (by simp; omega)]
    have : k - ((p.take k).map (renewJ l)).length = 0 := by simp; omega
    rw [this, List.getElem?_drop]; rfl
  · rw [List.getElem?_eq_none (by simp; omega), List.getElem?_eq_none (by omega)]
theorem ren_same (l p : List Jb) (k : Nat) (x : Jb) (h : p[k]? = some x) (hx : renewJ l x = x) : (p.take k).map (renewJ l) ++ p.drop k = (p.take (k + 1)).map (renewJ l) ++ p.drop (k + 1) := by
  obtain ⟨hl, e⟩ := List.getElem?_eq_some_iff.1 h
  rw [List.take_add_one, h, List.drop_eq_getElem_cons hl, e]
  simp [hx]
theorem ren_none {l : List Jb} {x : Jb} (h : idxI l x.i x.t = -1) : renewJ l x = x := by
  unfold renewJ
  rw [h]
  split
  · rw [if_neg (by omega)]
  · rfl
theorem ren_at {l : List Jb} {x y : Jb} {k : Nat} (h : idxI l x.i x.t = (k : Int)) (hy : l[k]? = some y) : renewJ l x = if y.v = x.v then setl x (min x.l y.l) else x := by
  unfold renewJ
  rw [h, Int.toNat_natCast, hy]
  simp
set_option maxRecDepth 100000 in
set_option maxHeartbeats 4000000 in
theorem renew_v (u v : Value) (l p : List Jb) (w : World) (hu : LJb.Sl w u l) (hv : LJb.Sl w v p) (hl : l.length ≤ 1000) (hn : p.length ≤ 1000) : Calls Try.prog 18 #[u, v] w (RetJ (renewL l p) w) := by
  have HU := Lib.hid hu
  have HV0 := Lib.hid hv
  obtain ⟨pl, nl, cl, rfl, hrl, _, _, _⟩ := hu
  have HL := Lib.hid hrl
  have HWFP : Hid (∀ x ∈ p, JbWf x) := Lib.hid (by obtain ⟨_, _, _, _, hr, _⟩ := hv; exact row_wf hr)
  have HWFL : Hid (∀ x ∈ l, JbWf x) := Lib.hid (row_wf hrl)
  have hnl := hrl.2.1
  clear hv hrl
  go_enter Try.func18, Try.ntmps18
  go_wp2_with fail
  refine (clone_v _ p _ HV0.out hn).mono ?_
  rintro e w1 ⟨⟨vo, rfl, hown⟩, hx1⟩
  obtain ⟨po, co, rfl, hr, hnc, hcm, hpl⟩ := hown.opened
  have HF : Hid (0 < p.length → ∃ g, po = some ⟨g, 0, none⟩ ∧ w.heap.size ≤ g) := Lib.hid (fun h => by
    obtain ⟨g, c, e, hg⟩ := hown.full h
    injection e with e1 e2 e3
    exact ⟨g, e1, hg⟩)
  have HO0 := Lib.hid hown
  obtain ⟨n, hnn⟩ : ∃ n, p.length = n := ⟨_, rfl⟩
  have HPN := Lib.hid hnn
  rw [hnn] at HO0 HF hnc ⊢
  clear hown hr hpl hnn
  have HX1 := Lib.hid hx1
  clear hx1
  have hn9 : n ≤ 9223372036854775807 := by omega
  go_wp2
  go_loopw [6, 7, 8, 13] (fun _ _ _ ix wr => RenR w w1 l p n (.slice po n co) ix wr) (fun _ _ _ ix _ => n - (intOf ix).toNat)
  case atStart => exact ⟨0, rfl, by omega, Lib.hid (by simpa using HO0.out), HX1.out, HX1⟩
  case round =>
    obtain ⟨k, rfl, hk, HO, _, HX⟩ := hrel
    by_cases hlt : k < n
    · obtain ⟨g, rfl, hg⟩ := HF.out (by omega)
      obtain ⟨x, gx⟩ := get_of p k (by rw [HPN.out]; exact hlt)
      have GX := Lib.hid gx
      obtain ⟨pq, nq0, cq, e, hr, _, _, _⟩ := HO.out.sl
      injection e with e1 e2 e3
      subst e1 e2 e3
      obtain ⟨bq, oq, hbq, hw, c0, c1, c2, c3, c4, c5⟩ := jb_at hr (j := k) (x := x) (by rw [ren_get]; exact gx)
      obtain ⟨rfl, rfl⟩ : bq = g ∧ oq = 0 := by injection hbq with hbq; injection hbq with h1 h2; exact ⟨h1.symm, h2.symm⟩
      have HW := Lib.hid hw
      have hlt' : (k : Int) < (n : Int) := by omega
      have hlt0 : (0 : Int) ≤ (k : Int) := by omega
      clear gx hr hw hbq
      simp only [Nat.zero_add] at c0 c1 c2 c3 c4 c5
      go_wp2_with fail
      refine (target_any x _).mono ?_
      rintro e w2 ⟨rfl, hx2⟩
      have HX2 := Lib.hid (Ext.trans HX.out (Ext.trans (Ext.alloc _ _) hx2))
      go_wp2_with fail
      refine (idxf_v _ l x.i x.t _ (HU.out.ext HX2.out)).mono ?_
      rintro e w3 ⟨rfl, hx3⟩
      have HXB := Lib.hid (Ext.trans hx2 hx3)
      have HXR := Lib.hid (Ext.trans (Ext.alloc _ _) HXB.out)
      have HX3 := Lib.hid (Ext.trans HX2.out hx3)
      have HO3 := Lib.hid (HO.out.ext HXR.out)
      have b0 : w3.cell? ⟨wr.heap.size, 0, none⟩ = some (.int .i64 x.i) := HXB.out.cell (cell_of_row _ _ 0 _ _ _ (heap_alloc_new wr _))
      have b1 : w3.cell? ⟨wr.heap.size, 1, none⟩ = some (.int .i64 x.v) := HXB.out.cell (cell_of_row _ _ 1 _ _ _ (heap_alloc_new wr _))
      have b2 : w3.cell? ⟨wr.heap.size, 2, none⟩ = some (.int .i64 x.f) := HXB.out.cell (cell_of_row _ _ 2 _ _ _ (heap_alloc_new wr _))
      have b3 : w3.cell? ⟨wr.heap.size, 3, none⟩ = some (.int .i64 x.t) := HXB.out.cell (cell_of_row _ _ 3 _ _ _ (heap_alloc_new wr _))
      have b4 : w3.cell? ⟨wr.heap.size, 4, none⟩ = some (.int .i64 x.h) := HXB.out.cell (cell_of_row _ _ 4 _ _ _ (heap_alloc_new wr _))
      have b5 : w3.cell? ⟨wr.heap.size, 5, none⟩ = some (.int .i64 x.l) := HXB.out.cell (cell_of_row _ _ 5 _ _ _ (heap_alloc_new wr _))
      have HC5 := Lib.hid (HXR.out.cell c5)
      clear hx2 hx3 c0 c1 c2 c3 c4 c5
      rcases idx_cases l x.i x.t with ⟨a, y, gy, _, _, hia⟩ | ⟨_, hin⟩
      · rw [hia]
        have HIA := Lib.hid hia
        obtain ⟨bl, ol, rfl, hwy, y0, y1, y2, y3, y4, y5⟩ := jb_at (HL.out.ext HX3.out) gy
        have GY := Lib.hid gy
        have HWY := Lib.hid hwy
        have ha : a < nl := by have := (List.getElem?_eq_some_iff.1 gy).1; have := HL.out.1; omega
        have ha0 : (0 : Int) ≤ (a : Int) := by omega
        have ha1 : (a : Int) < (nl : Int) := by omega
        have hda : decide (0 ≤ (a : Int)) = true := decide_eq_true ha0
        clear gy hwy hia
        by_cases hv : y.v = x.v
        · have ev : (y.v == x.v) = true := by simp [hv]
          have HRN : Hid (renewJ l x = setl x (min x.l y.l)) := Lib.hid (by rw [ren_at HIA.out GY.out, if_pos hv])
          clear hv
          go_wp2
          go_quiet (fail)
          have HX4 := Lib.hid (Ext.drewN HX3.out nq)
          have HO4 := Lib.hid (HO3.out.drewN nq)
          have HBB : Hid ((w3.drewN nq).cell? ⟨wr.heap.size, 5, none⟩ = some (.int .i64 x.l)) := Lib.hid b5
          have HYY : Hid ((w3.drewN nq).cell? ⟨bl, ol + a * 6 + 5, none⟩ = some (.int .i64 y.l)) := Lib.hid y5
          have HCC : Hid ((w3.drewN nq).cell? ⟨bq, k * 6 + 5, none⟩ = some (.int .i64 x.l)) := Lib.hid HC5.out
          generalize w3.drewN nq = w4 at HX4 HO4 HBB HYY HCC ⊢
          clear b0 b1 b2 b3 b4 b5 y0 y1 y2 y3 y4 y5
          have z5 := HBB.out
          have z6 := HYY.out
          have z7 := HCC.out
          have hfz : ∀ q, (w4.drewN q).frozen? ⟨bq, k * 6 + 5, none⟩ = false := fun q => (HO4.out.drewN q).frozenAt (by have := HPN.out; simp; omega) (k * 6 + 5)
          have hfz1 : w4.frozen? ⟨bq, k * 6 + 5, none⟩ = false := HO4.out.frozenAt (by have := HPN.out; simp; omega) (k * 6 + 5)
          go_wp2
          have hwm : (Lit.int .i64 (min x.l y.l)).wf = true := by
            have h1 := HW.out.2.2.2.2.2
            have h2 := HWY.out.2.2.2.2.2
            rcases Int.le_total x.l y.l with h | h
            · rw [Int.min_eq_left h]; exact h1
            · rw [Int.min_eq_right h]; exact h2
          have HLEN : Hid (((p.take k).map (renewJ l) ++ p.drop k).length = n) := Lib.hid (by have := HPN.out; simp; omega)
          have HST := Lib.hid (plain_jb.stored (HO4.out.ext (Ext.drew (Ext.refl _))) HLEN.out (l' := ((p.take k).map (renewJ l) ++ p.drop k).set k (setl x (min x.l y.l))) (by rw [List.length_set]; exact HLEN.out) (k * 6 + 5) (.int .i64 (min x.l y.l)) fun vs hv => jb_set hwm (k := k) (x := x) (by rw [ren_get]; exact GX.out) hv)
          have HXS := Lib.hid ((HO4.out.ext (Ext.drew (Ext.refl _))).ext_set (Ext.trans HX4.out (Ext.drew (Ext.refl _))) (Nat.le_refl _) (k * 6 + 5) (.int .i64 (min x.l y.l)))
          have HSE : Hid (((p.take k).map (renewJ l) ++ p.drop k).set k (setl x (min x.l y.l)) = (p.take (k + 1)).map (renewJ l) ++ p.drop (k + 1)) := Lib.hid (by rw [← HRN.out]; exact ren_step l p k x GX.out)
          clear hwm
          go_region_with (fail)
          all_goals
            go_wp2
            go_roundw
            case rel => exact ⟨k + 1, by go_num, by omega, Lib.hid (by rw [← HSE.out]; exact HST.out.1), HXS.out, HXS⟩
            case measure => simp [intOf]; omega
        · have ev : (y.v == x.v) = false := by simp [hv]
          have HSAME : Hid ((p.take k).map (renewJ l) ++ p.drop k = (p.take (k + 1)).map (renewJ l) ++ p.drop (k + 1)) := Lib.hid (ren_same l p k x GX.out (by rw [ren_at HIA.out GY.out, if_neg hv]))
          go_wp2
          go_quiet (fail)
          have HX4 := Lib.hid (Ext.drewN HX3.out nq)
          have HO4 := Lib.hid (HO3.out.drewN nq)
          go_wp2
          go_roundw
          case rel => exact ⟨k + 1, by go_num, by omega, Lib.hid (by rw [← HSAME.out]; exact HO4.out), HX4.out, HX4⟩
          case measure => simp [intOf]; omega
      · rw [hin]
        have hdn : decide ((0 : Int) ≤ -1) = false := rfl
        have HSAME : Hid ((p.take k).map (renewJ l) ++ p.drop k = (p.take (k + 1)).map (renewJ l) ++ p.drop (k + 1)) := Lib.hid (ren_same l p k x GX.out (ren_none hin))
        go_wp2
        go_quiet (fail)
        have HX4 := Lib.hid (Ext.drewN HX3.out nq)
        have HO4 := Lib.hid (HO3.out.drewN nq)
        go_wp2
        go_roundw
        case rel => exact ⟨k + 1, by go_num, by omega, Lib.hid (by rw [← HSAME.out]; exact HO4.out), HX4.out, HX4⟩
        case measure => simp [intOf]; omega
    · obtain rfl : k = n := by omega
      have HE : Hid (LJb.Own wr w.heap.size 33 (.slice po k co) (renewL l p)) := Lib.hid (by
        have := HO.out
        rw [List.take_of_length_le (by rw [HPN.out]; omega), List.drop_of_length_le (by rw [HPN.out]; omega), List.append_nil] at this
        exact this)
      go_wp2
      go_ret
      exact ⟨⟨_, rfl, HE.out.sl⟩, HX.out⟩
end Go.Proofs.Ytlbpgaoindkgbaa.Me
