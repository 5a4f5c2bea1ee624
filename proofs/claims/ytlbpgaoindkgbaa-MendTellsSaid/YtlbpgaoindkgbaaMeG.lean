/- Jobs: a row of one's own; a step. -/
import Derived.Test.YtlbpgaoindkgbaaMeF
import Derived.WalkSpells
namespace Go.Proofs.Ytlbpgaoindkgbaa.Me
open Go.RowKit Go.Proofs.Ytlbpgaoindkgbaa Go.Sort
set_option linter.unusedVariables false

def setl (x : Jb) (y : Int) : Jb := ⟨x.i, x.v, x.f, x.t, x.h, y⟩
theorem jb_set {w : World} {y : Int} (hy : (Lit.int .i64 y).wf = true) : ∀ {l : List Jb} {vs : List Value} {k : Nat} {x : Jb}, l[k]? = some x → LJb.All w vs l → LJb.All w (vs.set (k * 6 + 5) (.int .i64 y)) (l.set k (setl x y))
  | [], _, _, _, h, _ => by simp at h
  | z :: l, vs, 0, x, h, ha => by
    obtain ⟨cs, vs', rfl, ⟨rfl, h1⟩, h4⟩ := ha
    obtain rfl : z = x := by simpa using h
    exact ⟨encJ (setl z y), vs', rfl, ⟨rfl, h1.1, h1.2.1, h1.2.2.1, h1.2.2.2.1, h1.2.2.2.2.1, hy⟩, h4⟩
  | z :: l, vs, k + 1, x, h, ha => by
    obtain ⟨cs, vs', rfl, ⟨rfl, h1⟩, h4⟩ := ha
    have := jb_set hy (k := k) (x := x) (by simpa using h) h4
    exact ⟨encJ z, vs'.set (k * 6 + 5) (.int .i64 y), by rw [show (k + 1) * 6 + 5 = k * 6 + 5 + 6 by omega]; rfl, ⟨rfl, h1⟩, this⟩
set_option maxRecDepth 100000 in
set_option maxHeartbeats 4000000 in
theorem clone_v (u : Value) (l : List Jb) (w : World) (hu : LJb.Sl w u l) (hn : l.length ≤ 1000) : Calls Try.prog 27 #[u] w fun e w' => (∃ v, e = .returned v ∧ LJb.Own w' w.heap.size 33 v l) ∧ Ext w w' := by
  obtain ⟨i0, hi0, hzi0, hzi1, hzi2⟩ := info_parts info_job
  obtain ⟨p, n, c, rfl, hl, hnc, hcm, hpl⟩ := hu
  have HP := Lib.hid hl
  have HPL := Lib.hid hpl
  have HN : Hid (n ≤ 1000) := Lib.hid (by rw [← hl.1]; exact hn)
  clear hpl hn
  have hnil := fun (a : Option Addr) (n c : Nat) (w : World) => Lib.run_eql_slice_nil (P := Try.prog) w 22 33 a n c 0 0 Try.underlying22
  cases p with
  | none =>
    have h0 : c = 0 := by
      by_cases h : 0 < c
      · obtain ⟨b, off, e⟩ := HPL.out h; cases e
      · omega
    have hn0 : n = 0 := by omega
    obtain rfl : l = [] := List.eq_nil_of_length_eq_zero (by rw [hl.1, hn0])
    clear hl
    subst h0
    subst hn0
    go_enter Try.func27, Try.ntmps27
    go_wp2
    go_ret
    exact ⟨⟨_, rfl, Lay.Own.nil _ _ _ _⟩, Ext.refl _⟩
  | some a =>
    clear hl
    go_enter Try.func27, Try.ntmps27
    go_wp2_with (at_builtin; refine Lay.wpList_append (E := LJb) rfl (.tmp 5) (.tmp 6) 22 rfl w.heap.size 33 i0 (.agg #[.int .i64 0, .int .i64 0, .int .i64 0, .int .i64 0, .int .i64 0, .int .i64 0]) 48 Try.underlying22 hi0 hzi0 hzi1 hzi2 rfl _ ([]) rfl (plain_jb.own_lit w #[] _ w.heap.size 0 [] (Nat.le_refl _) rfl rfl (by decide)) (some a) n c l rfl HPL.out (by omega) (HP.out.keep (Ext.alloc _ _) (by intro k hk; cases hk; exact Nat.le_refl _)) (by have := HN.out; unfold maxLen; simp; omega) (by have := HN.out; simp; omega) (by simp) ?_; intro v2 w3 hown2 hg2)
    have X3 := Lib.hid ((plain_jb.own_lit w #[] 33 w.heap.size 0 [] (Nat.le_refl _) rfl rfl (by decide)).below (Ext.alloc _ _) (Nat.le_refl _) hg2)
    have HO := Lib.hid hown2
    clear hown2 hg2
    go_wp2
    go_ret
    exact ⟨⟨_, rfl, HO.out⟩, X3.out⟩
/-- what a step leaves, and ends -/
def stepL : List Jb → Int → List Jb × List Jb
  | [], _ => ([], [])
  | x :: m, r => if r < x.l then (setl x (x.l - r) :: m, []) else ((stepL m (r - x.l)).1, setl x 0 :: (stepL m (r - x.l)).2)
def z0 (x : Jb) : Jb := setl x 0
theorem tot_cons (x : Jb) (l : List Jb) : totI (x :: l) = x.l + totI l := by unfold totI; simp
theorem step_go : ∀ (l : List Jb) (k : Nat) (r : Int), SmallL l → totI (l.take k) ≤ r → stepL l r = ((stepL (l.drop k) (r - totI (l.take k))).1, (l.take k).map z0 ++ (stepL (l.drop k) (r - totI (l.take k))).2)
  | l, 0, r, _, _ => by simp [totI]
  | [], k + 1, r, _, _ => by simp [totI, stepL]
  | x :: l, k + 1, r, hs, h => by
    rw [List.take_succ_cons, tot_cons] at h
    have hs' : SmallL l := fun y hy => hs y (by simp [hy])
    have h1 := tot_bd (small_take hs' k)
    have h2 := step_go l k (r - x.l) hs' (by omega)
    show (if r < x.l then _ else _) = _
    rw [if_neg (by omega), h2, List.take_succ_cons, tot_cons, List.drop_succ_cons, show r - x.l - totI (l.take k) = r - (x.l + totI (l.take k)) by omega]
    rfl
theorem step_cut {l : List Jb} {k : Nat} {x : Jb} {r : Int} (hs : SmallL l) (h : totI (l.take k) ≤ r) (hx : l[k]? = some x) (hr : r - totI (l.take k) < x.l) : stepL l r = ((l.drop k).set 0 (setl x (x.l - (r - totI (l.take k)))), (l.take k).map z0) := by
  rw [step_go l k r hs h]
  have hd : l.drop k = x :: l.drop (k + 1) := by
    obtain ⟨hl, e⟩ := List.getElem?_eq_some_iff.1 hx
    rw [List.drop_eq_getElem_cons hl, e]
  rw [hd]
  have e : stepL (x :: l.drop (k + 1)) (r - totI (l.take k)) = (setl x (x.l - (r - totI (l.take k))) :: l.drop (k + 1), []) := by
    show (if r - totI (l.take k) < x.l then _ else _) = _
    rw [if_pos hr]
  rw [e]
  simp
theorem step_all {l : List Jb} {r : Int} (hs : SmallL l) (h : totI l ≤ r) : stepL l r = ([], l.map z0) := by
  have := step_go l l.length r hs (by rw [List.take_length]; exact h)
  rw [this, List.take_length, List.drop_length]
  simp [stepL]
def StepR (w : World) (l : List Jb) (n : Nat) (R : Int) (v6 v7 v8 i : Value) (wr : World) : Prop := ∃ k : Nat, i = .int .i64 k ∧ k ≤ n ∧ v6 = .slice none 0 0 ∧ Hid (LJb.Own wr w.heap.size 33 v7 ((l.take k).map z0)) ∧ Hid (totI (l.take k) ≤ R) ∧ v8 = .int .i64 (R - totI (l.take k)) ∧ Ext w wr
def Ret2 (s : List Jb × List Jb) (w : World) (e : Ending) (w' : World) : Prop := (∃ v u, e = .returned (.tuple #[v, u]) ∧ LJb.Sl w' v s.1 ∧ LJb.Sl w' u s.2) ∧ Ext w w'
theorem wf_setl {x : Jb} {y : Int} (h : JbWf x) (hy : (Lit.int .i64 y).wf = true) : JbWf (setl x y) := ⟨h.1, h.2.1, h.2.2.1, h.2.2.2.1, h.2.2.2.2.1, hy⟩
set_option maxRecDepth 100000 in
set_option maxHeartbeats 4000000 in
theorem step_v (u : Value) (l : List Jb) (bud R : Int) (w : World) (hu : LJb.Sl w u l) (hs : SmallL l) (hn : l.length ≤ 1000) (hb : (Lit.int .i64 bud).wf = true) (hR : R = max bud 0) : Calls Try.prog 12 #[u, .int .i64 bud] w (Ret2 (stepL l R) w) := by
  obtain ⟨i0, hi0, hzi0, hzi1, hzi2⟩ := info_parts info_job
  obtain ⟨p, n, c, rfl, hl, hnc, hcm, hpl⟩ := hu
  have HP := Lib.hid hl
  have HPL := Lib.hid hpl
  have HS := Lib.hid hs
  have hn63 := hl.2.1
  have HN : Hid (n ≤ 1000) := Lib.hid (by rw [← hl.1]; exact hn)
  have hb2 : -9223372036854775808 ≤ bud ∧ bud ≤ 9223372036854775807 := by
    simp [Lit.wf, IntKind.min, IntKind.max, IntKind.signed, IntKind.bits] at hb
    exact hb
  have HR : Hid (0 ≤ R ∧ R ≤ 9223372036854775807) := Lib.hid (by omega)
  clear hl hpl hs hn hb
  go_enter Try.func12, Try.ntmps12
  go_wp2
  go_step3
  go_wp2
  rw [← hR]
  clear hR
  go_step3
  go_wp2
  go_loopw [6, 7, 8, 9, 10, 15] (fun v6 v7 v8 _ _ i wr => StepR w l n R v6 v7 v8 i wr) (fun _ _ _ _ _ i _ => n - (intOf i).toNat)
  case atStart => exact ⟨0, rfl, by omega, rfl, Lib.hid (Lay.Own.nil _ _ _ _), Lib.hid (by simp [totI]; exact HR.out.1), by simp [totI], Ext.refl _⟩
  case round =>
    obtain ⟨k, rfl, hk, rfl, HO, HT, rfl, hx⟩ := hrel
    have HX := Lib.hid hx
    clear hx
    by_cases hlt : k < n
    · obtain ⟨x, gx⟩ := get_of l k (by rw [HP.out.1]; exact hlt)
      obtain ⟨b, off, rfl, hw, c0, c1, c2, c3, c4, c5⟩ := jb_at (HP.out.ext HX.out) gx
      have HW := Lib.hid hw
      have GX := Lib.hid gx
      have hlt' : (k : Int) < (n : Int) := by omega
      have hlt0 : (0 : Int) ≤ (k : Int) := by omega
      have HTS : Hid (totI (l.take (k + 1)) = totI (l.take k) + x.l) := Lib.hid (tot_snoc l k x gx)
      have hxl := HS.out x (List.mem_of_getElem? gx)
      have htb := tot_bd (small_take HS.out k)
      have hR := HR.out
      have hT := HT.out
      have HLK : Hid ((l.take k).length ≤ 1000) := Lib.hid (by have := HN.out; simp; omega)
      obtain ⟨T, hTT⟩ : ∃ T, totI (l.take k) = T := ⟨_, rfl⟩
      have HTT := Lib.hid hTT
      rw [hTT] at htb hT ⊢
      obtain ⟨htb0, htb1⟩ := htb
      obtain ⟨hxl0, hxl1⟩ := hxl
      obtain ⟨hR0, hR1⟩ := hR
      clear gx hw hTT
      by_cases hc : R - T < x.l
      · have hd : decide (R - T < x.l) = true := decide_eq_true hc
        have slf : ∀ w, (Instr.slice 22 (.slice (some ⟨b, off, none⟩) n c) (some (.int .i64 (k : Int))) none none).run Try.prog w = .ok (.slice (cutP (some ⟨b, off, none⟩) c k LJb.size) (n - k) (c - k)) w := fun w => run_cut_from Try.underlying22 info_size _ _ _ _ _ rfl (by omega) hnc w
        have HC := Lib.hid hc
        clear hc
        go_wp2_with fail
        refine (clone_v _ (l.drop k) _ (Lay.Sl.mk (((HP.out.ext HX.out).cut_from hnc HPL.out k (by omega)).ext (Ext.alloc _ _)) (by omega) (by omega) (HPL.out.cut k LJb.size)) (by rw [List.length_drop, HP.out.1]; have := HN.out; omega)).mono ?_
        rintro e w1 ⟨⟨v, rfl, hown⟩, hx1⟩
        have hdl : 0 < (l.drop k).length := by rw [List.length_drop, HP.out.1]; omega
        obtain ⟨g, cp, rfl, hg⟩ := hown.full hdl
        have HOW := Lib.hid hown
        have hd0 : (l.drop k)[0]? = some x := by rw [List.getElem?_drop]; exact GX.out
        have HD0 := Lib.hid hd0
        obtain ⟨bz, oz, hz, _, _, _, _, _, _, y5⟩ := jb_at (by obtain ⟨pp, cc, e, hr, _⟩ := hown.opened; injection e with e1 e2 e3; subst e1; exact hr) hd0
        obtain ⟨rfl, rfl⟩ : bz = g ∧ oz = 0 := by injection hz with hz; injection hz with h1 h2; exact ⟨h1.symm, h2.symm⟩
        have y5' : w1.cell? ⟨bz, 5, none⟩ = some (.int .i64 x.l) := by simpa using y5
        have hfz : w1.frozen? ⟨bz, 5, none⟩ = false := HOW.out.frozenAt rfl 5
        have hwy : (Lit.int .i64 (x.l - (R - T))).wf = true := by
          simp [Lit.wf, IntKind.min, IntKind.max, IntKind.signed, IntKind.bits]; omega
        have hdl' : (0 : Int) < ((n - k : Nat) : Int) := by omega
        have hdn : (l.drop k).length = n - k := by rw [List.length_drop, HP.out.1]
        have HST := Lib.hid (plain_jb.stored HOW.out rfl (l' := (l.drop k).set 0 (setl x (x.l - (R - T)))) (by simp) 5 (.int .i64 (x.l - (R - T))) fun vs hv => jb_set hwy (k := 0) HD0.out hv)
        have HXS := Lib.hid (HOW.out.ext_set (Ext.trans (Ext.trans HX.out (Ext.alloc _ _)) hx1) (Ext.trans HX.out (Ext.alloc _ _)).size 5 (.int .i64 (x.l - (R - T))))
        have HE2 := Lib.hid (((HO.out.ext (Ext.trans (Ext.alloc _ _) hx1))).kept plain_jb (Lay.grown_set w1 bz 5 (.int .i64 (x.l - (R - T)))) (fun h => by have h1 := (HO.out.lt _ h).2; have h2 := (HOW.out.lt bz rfl).1; simp at h2; omega))
        have HSC : Hid (stepL l R = ((l.drop k).set 0 (setl x (x.l - (R - T))), (l.take k).map z0)) := Lib.hid (by have := step_cut HS.out HT.out GX.out (by rw [HTT.out]; exact HC.out); rw [HTT.out] at this; exact this)
        rw [hdn] at HST HOW ⊢
        clear hown hx1 hd0 hz y5 hwy hdl hdn
        go_wp2
        rw [Exit.noGoto_ret]
        go_ret2
        rw [HSC.out]
        exact ⟨⟨_, _, rfl, HST.out.1.sl, HE2.out.sl⟩, HXS.out⟩
      · have HMM : Hid ((l.take (k + 1)).map z0 = (l.take k).map z0 ++ [setl x 0]) := Lib.hid (by rw [List.take_add_one, GX.out]; simp [z0])
        have hd : decide (R - T < x.l) = false := decide_eq_false hc
        have HC := Lib.hid hc
        clear hc
        go_wp2_with (at_builtin; refine Lay.wpList_append (E := LJb) rfl (.tmp 25) (.tmp 27) 22 rfl w.heap.size 33 i0 (.agg #[.int .i64 0, .int .i64 0, .int .i64 0, .int .i64 0, .int .i64 0, .int .i64 0]) 48 Try.underlying22 hi0 hzi0 hzi1 hzi2 rfl _ ((l.take k).map z0) rfl (HO.out.ext (Ext.trans (Ext.alloc _ _) (Ext.alloc _ _))) (some ⟨wr.heap.size + 1, 0, none⟩) 1 1 ([setl x 0]) rfl (fun _ => ⟨_, _, rfl⟩) (Nat.le_refl _) (plain_jb.lit (Ext.refl _) (Lay.All.single ⟨rfl, wf_setl HW.out (by decide)⟩) (by simp) rfl (by decide)) (by have := HLK.out; unfold maxLen; simp at this ⊢; omega) (by have := HLK.out; simp at this ⊢; omega) (by have := HX.out.size; simp; omega) ?_; intro v2 w3 hown2 hg2)
        have X3 := Lib.hid (HO.out.below HX.out (Nat.le_refl _) (grown_of (Ext.trans (Ext.alloc _ _) (Ext.alloc _ _)) hg2))
        have HO3 := Lib.hid hown2
        clear hown2 hg2
        go_roundw
        case rel => exact ⟨k + 1, by go_num, by omega, rfl, Lib.hid (by rw [HMM.out]; exact HO3.out), Lib.hid (by rw [HTS.out, HTT.out]; have := HC.out; omega), by rw [HTS.out, HTT.out, Int.sub_sub], X3.out⟩
        case measure => simp [intOf]; omega
    · obtain rfl : k = n := by omega
      have HSA : Hid (stepL l R = ([], l.map z0)) := Lib.hid (by
        have hT := HT.out
        have e : l.take k = l := List.take_of_length_le (by rw [HP.out.1]; omega)
        rw [e] at hT
        exact step_all HS.out hT)
      have HOE : Hid (LJb.Own wr w.heap.size 33 u7 (l.map z0)) := Lib.hid (by have := HO.out; rwa [List.take_of_length_le (by rw [HP.out.1]; omega)] at this)
      go_wp2
      rw [Exit.noGoto_ret]
      go_ret2
      rw [HSA.out]
      exact ⟨⟨_, _, rfl, Lay.Sl.nil _ _, HOE.out.sl⟩, HX.out⟩
end Go.Proofs.Ytlbpgaoindkgbaa.Me
