/- Leases: Right; Has. -/
import Derived.Test.YtocnopgpdlfkjaaLeB
import Derived.Test.YtocnopgpdlfkjaaSpanT0
namespace Go.Proofs.Ytocnopgpdlfkjaa.Ls
open Go.RowKit Go.Proofs.Ytocnopgpdlfkjaa
set_option linter.unusedVariables false

def RightR (w : World) (l : List Le) (n : Nat) (i : Value) (wr : World) : Prop := ∃ k : Nat, i = .int .i64 k ∧ k ≤ n ∧ Hid (∀ x ∈ l.take k, oneB x = true ∧ againstL l x = []) ∧ Ext w wr
theorem against_nil {l : List Le} {x : Le} : againstL l x = [] ↔ ∀ y ∈ l, clashB y x = false := by
  unfold againstL
  rw [List.filter_eq_nil_iff]
  constructor
  · intro h y hy; have := h y hy; simpa using this
  · intro h y hy; rw [h y hy]; simp
theorem right_yes {l : List Le} (hl : l.length ≤ 64) (h : ∀ x ∈ l, oneB x = true ∧ againstL l x = []) : rightB l = true := decide_eq_true ⟨hl, fun x hx => ⟨(h x hx).1, against_nil.1 (h x hx).2⟩⟩
theorem right_no {l : List Le} {x : Le} (hx : x ∈ l) (h : oneB x = false ∨ againstL l x ≠ []) : rightB l = false := decide_eq_false (fun ⟨_, h2⟩ => by
  rcases h with h | h
  · rw [(h2 x hx).1] at h; cases h
  · exact h (against_nil.2 (h2 x hx).2))

set_option maxRecDepth 100000 in
set_option maxHeartbeats 4000000 in
theorem right_v (u : Value) (l : List Le) (w : World) (hu : LLe.Sl w u l) (hn : l.length ≤ 100000) :
    Calls Try.prog 10 #[u] w fun e w' => e = .returned (.bool (rightB l)) ∧ Ext w w' := by
  have HU0 := hu
  obtain ⟨p, n, c, rfl, hr, _, _, _⟩ := hu
  have HU := Lib.hid HU0
  have HL := Lib.hid hr.1
  have HP := Lib.hid hr
  have hn63 := hr.2.1
  have HN := Lib.hid hn
  clear hr hn HU0
  by_cases h64 : n ≤ 64
  · have h64' : ¬ (64 : Int) < (n : Int) := by omega
    go_enter Try.func10, Try.ntmps10
    go_wp2
    go_loopw [10] (fun i wr => RightR w l n i wr) (fun i _ => n - (intOf i).toNat)
    case atStart => exact ⟨0, rfl, by omega, Lib.hid (by simp), Ext.refl _⟩
    case round =>
      obtain ⟨k, rfl, hk, HE, hx⟩ := hrel
      by_cases hlt : k < n
      · obtain ⟨x, gx⟩ := get_of l k (by rw [HL.out]; exact hlt)
        obtain ⟨b, off, rfl, hw, c0, c1, c2, c3, c4, c5, c6⟩ := le_at (HP.out.ext hx) gx
        have GX := Lib.hid gx
        have HX := Lib.hid hx
        have hlt' : (k : Int) < (n : Int) := by omega
        have hlt0 : (0 : Int) ≤ (k : Int) := by omega
        clear gx hw hx
        obtain ⟨q, hq⟩ : ∃ q, oneB x = q := ⟨_, rfl⟩
        have HQ := Lib.hid hq
        clear hq
        go_wp2_with fail
        refine (one_any x _).mono ?_
        rintro e w2 ⟨rfl, hx2⟩
        rw [HQ.out]
        obtain ⟨b0, b1, b2, b3, b4, b5, b6⟩ := box_cells wr w2 x _ hx2
        have HX2 := Lib.hid (Ext.trans HX.out (Ext.trans (Ext.alloc _ _) hx2))
        clear hx2 c0 c1 c2 c3 c4 c5 c6
        cases q
        · go_wp2
          go_ret
          exact ⟨ret_bool (right_no (List.mem_of_getElem? GX.out) (.inl HQ.out)).symm, HX2.out⟩
        · go_wp2_with fail
          refine (clashing_v _ l x w2 (HU.out.ext HX2.out) HN.out).mono ?_
          rintro e w3 ⟨⟨v, rfl, hown⟩, hx3⟩
          obtain ⟨pa, ca, hv, _⟩ := hown.opened
          obtain ⟨na, hna⟩ : ∃ na, (againstL l x).length = na := ⟨_, rfl⟩
          rw [hna] at hv
          subst hv
          have HNA := Lib.hid hna
          have HX3 := Lib.hid (Ext.trans HX2.out hx3)
          clear hown hx3 hna
          by_cases h0 : na = 0
          · subst h0
            go_wp2
            go_roundw
            case rel => exact ⟨k + 1, by go_num, by omega, Lib.hid (fun y hy => by
              rw [List.take_add_one, GX.out] at hy
              rcases List.mem_append.1 hy with hy | hy
              · exact HE.out y hy
              · simp at hy; subst hy; exact ⟨HQ.out, List.eq_nil_of_length_eq_zero HNA.out⟩), HX3.out⟩
            case measure => simp [intOf]; omega
          · have h0' : 0 < na := by omega
            go_wp2
            go_ret
            exact ⟨ret_bool (right_no (List.mem_of_getElem? GX.out) (.inr (fun h => h0 (by rw [← HNA.out, h]; rfl)))).symm, HX3.out⟩
      · obtain rfl : k = n := by omega
        go_wp2
        go_ret
        exact ⟨ret_bool (right_yes (by rw [HL.out]; exact h64) (fun x hx => HE.out x (by rw [List.take_of_length_le (by rw [HL.out]; omega)]; exact hx))).symm, hx⟩
  · have h64' : (64 : Int) < (n : Int) := by omega
    have e : rightB l = false := decide_eq_false (fun h => h64 (by rw [← HL.out]; exact h.1))
    rw [e]
    clear e
    go_enter Try.func10, Try.ntmps10
    go_wp2
    go_ret
    exact ⟨rfl, Ext.refl _⟩

/-! ### Has -/
def inHas (c i k : Int) (x : Le) : Bool := decide (x.c = c ∧ x.i = i ∧ (x.k = k ∨ x.k = 2))
def hadL (l : List Le) (c i k : Int) : List Sp.Span := (l.filter (inHas c i k)).map fun x => (x.f, x.t)
noncomputable def hasLB (l : List Le) (c i k f t : Int) : Bool := rightSpB f t && kindB k && decide (Sp.ofL Sp.fCut [(f, t)] (hadL l c i k) = [])
theorem hadL_snoc (l : List Le) (c i k : Int) (j : Nat) (x : Le) (h : l[j]? = some x) : hadL (l.take (j + 1)) c i k = hadL (l.take j) c i k ++ (if inHas c i k x then [(x.f, x.t)] else []) := by
  unfold hadL
  rw [List.take_add_one, h, List.filter_append, List.map_append]
  congr 1
  by_cases e : inHas c i k x = true <;> simp [e]
def HasR (w : World) (l : List Le) (c i k : Int) (n : Nat) (v iv : Value) (wr : World) : Prop := ∃ j : Nat, j ≤ n ∧ iv = .int .i64 j ∧ Sp.LSpan.Own wr w.heap.size 24 v (hadL (l.take j) c i k) ∧ Ext w wr
def RetHas (l : List Le) (c i k f t : Int) (w : World) (e : Ending) (w' : World) : Prop := e = .returned (.bool (hasLB l c i k f t)) ∧ (rightSpB f t = true → kindB k = true → Hid (Sp.IsOf Sp.fCut [(f, t)] (hadL l c i k) (Sp.ofL Sp.fCut [(f, t)] (hadL l c i k)))) ∧ Ext w w'

set_option maxRecDepth 100000 in
set_option maxHeartbeats 8000000 in
theorem has_v (u : Value) (l : List Le) (cc ii kk f t : Int) (w : World) (hu : LLe.Sl w u l) (hn : l.length ≤ 1000) (hf : (Lit.int .i64 f).wf = true) (ht : (Lit.int .i64 t).wf = true) :
    Calls Try.prog 21 #[u, .int .i64 cc, .int .i64 ii, .int .i64 kk, .agg #[.int .i64 f, .int .i64 t]] w (RetHas l cc ii kk f t w) := by
  obtain ⟨i0, hi0, hzi0, hzi1, hzi2⟩ := info_parts Sp.info_span
  obtain ⟨p, n, c, rfl, hr, _, _, _⟩ := hu
  have HP := Lib.hid hr
  have HL : Hid (l.length = n) := Lib.hid hr.1
  have hn63 := hr.2.1
  have hn1 : n ≤ 1000 := by rw [← hr.1]; exact hn
  have HWF := Lib.hid hf
  have HWT := Lib.hid ht
  clear hr hn hf ht
  obtain ⟨qs, hqs⟩ : ∃ q, rightSpB f t = q := ⟨_, rfl⟩
  obtain ⟨qk, hqk⟩ : ∃ q, kindB kk = q := ⟨_, rfl⟩
  have HQS := Lib.hid hqs
  have HQK := Lib.hid hqk
  clear hqs hqk
  go_enter Try.func21, Try.ntmps21
  go_wp2_with fail
  refine (rightSp_any f t _).mono ?_
  rintro e w1 ⟨rfl, hx1⟩
  rw [HQS.out]
  have bf : w1.cell? ⟨w.heap.size, 0, none⟩ = some (.int .i64 f) := hx1.cell (cell_of_row _ _ 0 _ _ _ (heap_alloc_new w _))
  have bt : w1.cell? ⟨w.heap.size, 1, none⟩ = some (.int .i64 t) := hx1.cell (cell_of_row _ _ 1 _ _ _ (heap_alloc_new w _))
  have HX1 := Lib.hid (Ext.trans (Ext.alloc _ _) hx1)
  clear hx1
  cases qs
  · have HR : Hid (hasLB l cc ii kk f t = false) := Lib.hid (by unfold hasLB; rw [HQS.out]; rfl)
    go_wp2
    go_ret
    exact ⟨ret_bool HR.out.symm, fun h => (by rw [HQS.out] at h; cases h), HX1.out⟩
  go_wp2_with fail
  refine (kind_any kk _).mono ?_
  rintro e w2 ⟨rfl, hx2⟩
  rw [HQK.out]
  have bf2 := hx2.cell bf
  have bt2 := hx2.cell bt
  have HX2 := Lib.hid (Ext.trans HX1.out hx2)
  clear hx2 bf bt
  cases qk
  · have HR : Hid (hasLB l cc ii kk f t = false) := Lib.hid (by unfold hasLB; rw [HQS.out, HQK.out]; rfl)
    go_wp2
    go_ret
    exact ⟨ret_bool HR.out.symm, fun _ h => (by rw [HQK.out] at h; cases h), HX2.out⟩
  have HBF := Lib.hid bf2
  have HBT := Lib.hid bt2
  clear bf2 bt2
  go_wp2
  go_loopw [11, 24] (fun v iv wr => HasR w2 l cc ii kk n v iv wr) (fun _ iv _ => n - (intOf iv).toNat)
  case atStart => exact ⟨0, by omega, rfl, Lay.Own.nil _ _ _ _, Ext.refl _⟩
  case round =>
    obtain ⟨j, hj, rfl, hown, hx⟩ := hrel
    have HO0 := Lib.hid hown
    have HO : Hid (Sp.LSpan.Own wr w.heap.size 24 _ _) := Lib.hid (hown.base HX2.out.size)
    clear hown
    by_cases hlt : j < n
    · obtain ⟨x, gx⟩ := get_of l j (by rw [HL.out]; exact hlt)
      obtain ⟨b, off, rfl, hw, c0, c1, c2, c3, c4, c5, c6⟩ := le_at (HP.out.ext (Ext.trans HX2.out hx)) gx
      have HS := Lib.hid (hadL_snoc l cc ii kk j x gx)
      have HW := Lib.hid hw
      have hlt' : (j : Int) < (n : Int) := by omega
      have hlt0 : (0 : Int) ≤ (j : Int) := by omega
      have HLEN : Hid ((hadL (l.take j) cc ii kk).length ≤ 1000) := Lib.hid (by
        unfold hadL
        rw [List.length_map]
        have h1 := List.length_filter_le (inHas cc ii kk) (l.take j)
        simp only [List.length_take] at h1
        omega)
      have HM63 : Hid ((hadL (l.take j) cc ii kk).length + 1 ≤ maxLen) := Lib.hid (by have := HLEN.out; unfold maxLen; omega)
      have HMB : Hid (((hadL (l.take j) cc ii kk).length + 1) * 16 ≤ 140737488355328) := Lib.hid (by have := HLEN.out; omega)
      clear gx hw HO
      have HO := HO0
      by_cases hc : x.c = cc
      · have dc0 : (x.c == cc) = true := by simp [hc]
        have Hc := Lib.hid hc
        clear hc
        by_cases hi : x.i = ii
        · have di0 : (x.i == ii) = true := by simp [hi]
          have Hi := Lib.hid hi
          clear hi
          by_cases hk : x.k = kk
          · have dk0 : (x.k == kk) = true := by simp [hk]
            have Hk := Lib.hid hk
            clear hk
            have HIN : Hid (inHas cc ii kk x = true) := Lib.hid (decide_eq_true ⟨Hc.out, Hi.out, .inl Hk.out⟩)
            go_wp2_with (at_builtin; refine Lay.wpList_append (E := Sp.LSpan) rfl (.tmp 49) (.tmp 52) 60 rfl w2.heap.size 24 i0 (.agg #[.int .i64 0, .int .i64 0]) 16 Try.underlying60 hi0 hzi0 hzi1 hzi2 rfl _ (hadL (l.take j) cc ii kk) rfl (HO.out.ext (Ext.trans (Ext.alloc _ _) (Ext.alloc _ _))) (some ⟨wr.heap.size + 1, 0, none⟩) 1 1 ([(x.f, x.t)]) rfl (fun _ => ⟨_, _, rfl⟩) (Nat.le_refl _) (Sp.plain_span.lit (Ext.refl _) (Lay.All.single ⟨_, _, rfl, ⟨rfl, HW.out.2.2.2.1⟩, ⟨rfl, HW.out.2.2.2.2.1⟩⟩) (by simp) rfl (by decide)) HM63.out HMB.out (Nat.le_trans hx.size (show wr.heap.size ≤ _ from by simp; omega)) ?_; intro v2 w2 hown2 hg2; have X3 := HO.out.below hx (Nat.le_refl _) (grown_of (Ext.trans (Ext.alloc _ _) (Ext.alloc _ _)) hg2); have HO3 := Lib.hid hown2; clear hown2 hg2)
            go_roundw
            case rel => exact ⟨j + 1, by omega, by go_num, by have h9 := HS.out; rw [HIN.out, if_pos rfl] at h9; rw [h9]; exact HO3.out, X3⟩
            case measure => simp [intOf]; omega
          · have dk0 : (x.k == kk) = false := by simp [hk]
            have Hk := Lib.hid hk
            clear hk
            by_cases hl : x.k = 2
            · have dl0 : (x.k == 2) = true := by simp [hl]
              have Hl := Lib.hid hl
              clear hl
              have HIN : Hid (inHas cc ii kk x = true) := Lib.hid (decide_eq_true ⟨Hc.out, Hi.out, .inr Hl.out⟩)
              go_wp2_with (at_builtin; refine Lay.wpList_append (E := Sp.LSpan) rfl (.tmp 49) (.tmp 52) 60 rfl w2.heap.size 24 i0 (.agg #[.int .i64 0, .int .i64 0]) 16 Try.underlying60 hi0 hzi0 hzi1 hzi2 rfl _ (hadL (l.take j) cc ii kk) rfl (HO.out.ext (Ext.trans (Ext.alloc _ _) (Ext.alloc _ _))) (some ⟨wr.heap.size + 1, 0, none⟩) 1 1 ([(x.f, x.t)]) rfl (fun _ => ⟨_, _, rfl⟩) (Nat.le_refl _) (Sp.plain_span.lit (Ext.refl _) (Lay.All.single ⟨_, _, rfl, ⟨rfl, HW.out.2.2.2.1⟩, ⟨rfl, HW.out.2.2.2.2.1⟩⟩) (by simp) rfl (by decide)) HM63.out HMB.out (Nat.le_trans hx.size (show wr.heap.size ≤ _ from by simp; omega)) ?_; intro v2 w2 hown2 hg2; have X3 := HO.out.below hx (Nat.le_refl _) (grown_of (Ext.trans (Ext.alloc _ _) (Ext.alloc _ _)) hg2); have HO3 := Lib.hid hown2; clear hown2 hg2)
              go_roundw
              case rel => exact ⟨j + 1, by omega, by go_num, by have h9 := HS.out; rw [HIN.out, if_pos rfl] at h9; rw [h9]; exact HO3.out, X3⟩
              case measure => simp [intOf]; omega
            · have dl0 : (x.k == 2) = false := by simp [hl]
              have Hl := Lib.hid hl
              clear hl
              have HIN : Hid (inHas cc ii kk x = false) := Lib.hid (decide_eq_false (fun h => h.2.2.elim Hk.out Hl.out))
              go_wp2
              go_roundw
              case rel => exact ⟨j + 1, by omega, by go_num, by have h9 := HS.out; rw [HIN.out] at h9; simp only [Bool.false_eq_true, if_false, List.append_nil] at h9; rw [h9]; exact HO.out.ext (Ext.alloc _ _), Ext.trans hx (Ext.alloc _ _)⟩
              case measure => simp [intOf]; omega
        · have di0 : (x.i == ii) = false := by simp [hi]
          have Hi := Lib.hid hi
          clear hi
          have HIN : Hid (inHas cc ii kk x = false) := Lib.hid (decide_eq_false (fun h => Hi.out h.2.1))
          go_wp2
          go_roundw
          case rel => exact ⟨j + 1, by omega, by go_num, by have h9 := HS.out; rw [HIN.out] at h9; simp only [Bool.false_eq_true, if_false, List.append_nil] at h9; rw [h9]; exact HO.out.ext (Ext.alloc _ _), Ext.trans hx (Ext.alloc _ _)⟩
          case measure => simp [intOf]; omega
      · have dc0 : (x.c == cc) = false := by simp [hc]
        have Hc := Lib.hid hc
        clear hc
        have HIN : Hid (inHas cc ii kk x = false) := Lib.hid (decide_eq_false (fun h => Hc.out h.1))
        go_wp2
        go_roundw
        case rel => exact ⟨j + 1, by omega, by go_num, by have h9 := HS.out; rw [HIN.out] at h9; simp only [Bool.false_eq_true, if_false, List.append_nil] at h9; rw [h9]; exact HO.out.ext (Ext.alloc _ _), Ext.trans hx (Ext.alloc _ _)⟩
        case measure => simp [intOf]; omega
    · obtain rfl : j = n := by omega
      have e0 : l.take j = l := List.take_of_length_le (by rw [HL.out]; omega)
      rw [e0] at HO0
      clear e0 HO
      have HLEN : Hid ((hadL l cc ii kk).length ≤ 1000) := Lib.hid (by
        unfold hadL
        rw [List.length_map]
        have h1 := List.length_filter_le (inHas cc ii kk) l
        rw [HL.out] at h1
        omega)
      have bf3 := hx.cell HBF.out
      have bt3 := hx.cell HBT.out
      have HX3 := Lib.hid (Ext.trans HX2.out hx)
      clear hx
      go_wp2_with fail
      refine (Sp.cut_v _ _ [(f, t)] (hadL l cc ii kk) _ ⟨_, _, _, rfl, Lay.Row.lit (Ext.refl _) (Lay.All.single ⟨_, _, rfl, ⟨rfl, HWF.out⟩, ⟨rfl, HWT.out⟩⟩) rfl rfl (by simp), Nat.le_refl _, by simp, fun _ => ⟨_, _, rfl⟩⟩ (HO0.out.ext (Ext.alloc _ _)).sl (by have := HLEN.out; simp only [List.length_cons, List.length_nil]; omega)).mono ?_
      rintro e w4 ⟨⟨v, rfl, hown⟩, hi, hx4⟩
      obtain ⟨pa, ca, hv, _⟩ := hown.opened
      obtain ⟨L, hL⟩ : ∃ L, Sp.ofL Sp.fCut [(f, t)] (hadL l cc ii kk) = L := ⟨_, rfl⟩
      rw [hL] at hv hi
      obtain ⟨na, hna⟩ : ∃ na, L.length = na := ⟨_, rfl⟩
      rw [hna] at hv
      subst hv
      have HR : Hid (hasLB l cc ii kk f t = decide (na = 0)) := Lib.hid (by
        unfold hasLB
        rw [HQS.out, HQK.out, hL, Bool.true_and, Bool.true_and, Bool.eq_iff_iff, decide_eq_true_iff, decide_eq_true_iff, ← hna, List.length_eq_zero_iff])
      have HI := hi
      have HLL := Lib.hid hL
      have HX4 := Lib.hid (Ext.trans HX3.out (Ext.trans (Ext.alloc _ _) hx4))
      clear hown hi hx4 hna hL
      by_cases h0 : na = 0
      · subst h0
        go_wp2
        go_ret
        exact ⟨ret_bool (by rw [HR.out]; rfl), fun _ _ => Lib.hid (by rw [HLL.out]; exact HI.out), HX4.out⟩
      · have h0' : ((na : Int) == 0) = false := by simpa using h0
        have HNZ := Lib.hid h0
        clear h0
        go_wp2
        go_ret
        exact ⟨ret_bool (by rw [HR.out, decide_eq_false HNZ.out]), fun _ _ => Lib.hid (by rw [HLL.out]; exact HI.out), HX4.out⟩
end Go.Proofs.Ytocnopgpdlfkjaa.Ls
