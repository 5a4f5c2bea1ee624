/- Spans: bounds of two rows, in order. -/
import Derived.Test.YtocnopgpdlfkjaaSpanC0
import Derived.Shelf.SlSortCmp.NoneTotal
namespace Go.Proofs.Ytocnopgpdlfkjaa.Sp
open Go.RowKit Go.Proofs.Ytocnopgpdlfkjaa Go.Sort
set_option linter.unusedVariables false

theorem grown_of {a b c : World} {row : Option Nat} (h : Ext a b) (k : b.grownBy c row) : a.grownBy c row := Lay.grown_trans (Lay.grown_ext h row) k
def accB (a b : List Span) (k : Nat) : List Bd := if k = 0 then [] else if k = 1 then a.flatMap (bdOf 0) else bds a b
theorem accB_succ (a b x : List Span) (k : Nat) (h : [a, b][k]? = some x) : accB a b k ++ x.flatMap (bdOf (k : Int)) = accB a b (k + 1) := by
  match k, h with
  | 0, h => injection h with h; subst h; rfl
  | 1, h => injection h with h; subst h; rfl
theorem accB_len (a b : List Span) (k : Nat) : (accB a b k).length ≤ 2 * (a.length + b.length) := by
  unfold accB
  have := flat_len 0 a
  have := bds_len a b
  split
  · simp
  · split <;> omega
theorem pair_len (a b x : List Span) (k : Nat) (h : [a, b][k]? = some x) : x.length ≤ a.length + b.length := by
  match k, h with
  | 0, h => injection h with h; subst h; omega
  | 1, h => injection h with h; subst h; omega
theorem bdOf_yes {j : Int} {s : Span} (h : max s.1 0 < min s.2 1099511627776) : bdOf j s = [(max s.1 0, j, 1), (min s.2 1099511627776, j, -1)] := by unfold bdOf; rw [if_pos h]
theorem bdOf_no {j : Int} {s : Span} (h : ¬ max s.1 0 < min s.2 1099511627776) : bdOf j s = [] := by unfold bdOf; rw [if_neg h]
def BdsR (w : World) (a b : List Span) (v i : Value) (wr : World) : Prop := ∃ k : Nat, k ≤ 2 ∧ i = .int .i64 k ∧ LBd.Own wr w.heap.size 89 v (accB a b k) ∧ Ext w wr
def BdsR2 (w : World) (A : List Bd) (x : List Span) (j : Int) (m : Nat) (v i : Value) (wr : World) : Prop := ∃ t : Nat, t ≤ m ∧ i = .int .i64 t ∧ LBd.Own wr w.heap.size 89 v (A ++ (x.take t).flatMap (bdOf j)) ∧ Ext w wr
def RetBds (a b : List Span) (w : World) (e : Ending) (w' : World) : Prop := (∃ v L, e = .returned v ∧ LBd.Sl w' v L ∧ (∀ g, v.ownBlock = some g → w.heap.size ≤ g) ∧ Hid (BdOk a b L)) ∧ Ext w w'
theorem bd2_all (w : World) (f u j : Int) (h : BdWf (f, j, 1)) (h2 : BdWf (u, j, -1)) : LBd.All w #[.int .i64 f, .int .i64 j, .int .i64 1, .int .i64 u, .int .i64 j, .int .i64 (-1)].toList [(f, j, 1), (u, j, -1)] := all_bd w (l := [(f, j, 1), (u, j, -1)]) (fun x hx => (List.mem_cons.1 hx).elim (fun e => e ▸ h) fun hx => (List.mem_singleton.1 hx) ▸ h2)
theorem sorted_ok {a b : List Span} {L : List Bd} {d' : Array Bd} (hL : L.Perm (bds a b)) (hp : PermIn 0 L.toArray.size L.toArray d') (hs : SortedIn (ltOf fun x y : Bd => Lib.compareInt x.1 y.1) 0 L.toArray.size d') : BdOk a b d'.toList := by
  obtain ⟨h1, _, h3⟩ := hp
  have e1 : d'.extract 0 L.toArray.size = d' := by rw [← h1, Array.extract_size]
  have e2 : L.toArray.extract 0 L.toArray.size = L.toArray := Array.extract_size
  rw [e1, e2] at h3
  refine ⟨h3.trans hL, fun i j x y hij hx hy => ?_⟩
  have hi := (List.getElem?_eq_some_iff.1 hx)
  have hj := (List.getElem?_eq_some_iff.1 hy)
  obtain ⟨hi1, hi2⟩ := hi
  obtain ⟨hj1, hj2⟩ := hj
  have := hs i j (Nat.zero_le _) hij (by rw [← h1]; simpa using hj1)
  rw [ltB, getElem!_pos d' j (by simpa using hj1), getElem!_pos d' i (by simpa using hi1)] at this
  have e3 : d'[i]'(by simpa using hi1) = x := by rw [← hi2]; simp
  have e4 : d'[j]'(by simpa using hj1) = y := by rw [← hj2]; simp
  rw [e3, e4] at this
  simpa using this

theorem own_holds {w : World} {base g c : Nat} {L : List Bd} (h : LBd.Own w base 89 (.slice (some ⟨g, 0, none⟩) L.length c) L) : HoldsK encB 3 w g 0 L.toArray := by
  obtain ⟨vs, h1, h2⟩ := h
  obtain ⟨rfl, hw⟩ := bd_all h2.all
  rcases h1.2 with ⟨hv, _⟩ | ⟨g', cap', cur, hv, hb, hg, hnc, hcm, hcs, htk⟩
  · cases hv
  simp only [Value.slice.injEq, Option.some.injEq, Addr.mk.injEq, and_true, true_and] at hv
  obtain ⟨rfl, rfl⟩ := hv
  intro t ht
  rw [size_flatK] at ht
  simp at ht
  have e1 : (flatK encB 3 L.toArray)[t]? = (L.flatMap encB)[t]? := by rw [← Array.getElem?_toList, flatK_list]
  have e2 : t < (flatK encB 3 L.toArray).size := by rw [size_flatK]; simpa using ht
  have e3 : (L.flatMap encB)[t]? = some (id (flatK encB 3 L.toArray)[t]!) := by rw [← e1, Array.getElem?_eq_getElem e2, getElem!_pos (flatK encB 3 L.toArray) t e2]; rfl
  refine ⟨?_, frozen_of_row w g (0 + t) cur _ hg⟩
  have := h1.cells (g := g) rfl t _ e3
  rwa [add0] at this
theorem own_cap {w : World} {base g c : Nat} {L : List Bd} (h : LBd.Own w base 89 (.slice (some ⟨g, 0, none⟩) L.length c) L) : L.length ≤ c ∧ c ≤ 9223372036854775807 := by
  obtain ⟨p, c', e, _, h1, h2, _⟩ := h.opened
  simp only [Value.slice.injEq, true_and] at e
  obtain ⟨_, rfl⟩ := e
  exact ⟨h1, h2⟩

set_option maxRecDepth 100000 in
set_option maxHeartbeats 4000000 in
theorem bounds_any (p : Option Addr) (c : Nat) (a b : List Span) (w : World) (hl : LSpan.slice.Row w p 2 [a, b]) (hn : a.length + b.length ≤ 100000) :
    Calls Try.prog 68 #[.slice p 2 c] w (RetBds a b w) := by
  obtain ⟨i0, hi0, hzi0, hzi1, hzi2⟩ := info_parts info_bd
  have HP := Lib.hid hl
  have hn6 := Lib.hid hn
  clear hl hn
  go_enter Try.func68, Try.ntmps68
  go_wp2
  go_loopw [3, 12] (fun v i wr => BdsR w a b v i wr) (fun _ i _ => 2 - (intOf i).toNat)
  case atStart => exact ⟨0, by omega, rfl, Lay.Own.nil _ _ _ _, Ext.refl _⟩
  case round =>
    obtain ⟨k, hk, rfl, hown, hx⟩ := hrel
    have HO := Lib.hid hown
    clear hown
    by_cases hlt : k < 2
    · obtain ⟨x, hgx⟩ := get_of [a, b] k hlt
      obtain ⟨bb, off, q, m, d, rfl, c0, rx, hmd, hd, hpl⟩ := Lay.sls_at HP.out hgx
      have cx := hx.cell c0
      have HRX := Lib.hid rx
      have HSX := Lib.hid (accB_succ a b x k hgx)
      have HLX := Lib.hid (pair_len a b x k hgx)
      have hm63 := rx.2.1
      have hlt' : (k : Int) < 2 := by omega
      have hlt0 : (0 : Int) ≤ (k : Int) := by omega
      have HJ : Hid ((k : Int) = 0 ∨ (k : Int) = 1) := Lib.hid (by omega)
      clear hgx rx hpl c0 HP
      go_wp2
      go_loopw [3, 19] (fun v i wr2 => BdsR2 w (accB a b k) x k m v i wr2) (fun _ i _ => m - (intOf i).toNat)
      case atStart => exact ⟨0, by omega, rfl, by simpa using HO.out, hx⟩
      case round =>
        obtain ⟨t, ht, rfl, hown, hx2⟩ := hrel
        have HO2 := Lib.hid hown
        clear hown HO
        by_cases hlt2 : t < m
        · obtain ⟨s, gs⟩ := get_of x t (by rw [HRX.out.1]; exact hlt2)
          obtain ⟨b3, off3, rfl, s0, s1, _, _⟩ := span_at (HRX.out.ext hx2) gs
          obtain ⟨f, u⟩ := s
          simp only at s0 s1
          have GS := Lib.hid gs
          have hlt' : (t : Int) < (m : Int) := by omega
          have hlt0 : (0 : Int) ≤ (t : Int) := by omega
          clear gs
          have HLE : Hid ((accB a b k ++ (x.take t).flatMap (bdOf (k : Int))).length + 2 ≤ 1000000) := Lib.hid (by
            have := accB_len a b k
            have := flat_len (k : Int) (x.take t)
            have := HLX.out
            have := hn6.out
            simp at *
            omega)
          by_cases hc : max f 0 < min u 1099511627776
          · have hcd : decide (max f 0 < min u 1099511627776) = true := decide_eq_true hc
            have HSS : Hid (bdOf (k : Int) (f, u) = [(max f 0, (k : Int), 1), (min u 1099511627776, (k : Int), -1)]) := Lib.hid (bdOf_yes hc)
            have HW1 : Hid (BdWf (max f 0, (k : Int), 1)) := Lib.hid (bd_wf ⟨by show 0 ≤ max f 0; omega, by show max f 0 ≤ _; omega, HJ.out, .inl rfl⟩)
            have HW2 : Hid (BdWf (min u 1099511627776, (k : Int), -1)) := Lib.hid (bd_wf ⟨by show 0 ≤ min u 1099511627776; omega, by show min u 1099511627776 ≤ _; omega, HJ.out, .inr rfl⟩)
            go_wp2
            go_quiet (fail)
            go_wp2_with (at_builtin; refine Lay.wpList_append (E := LBd) rfl (.tmp 32) (.tmp 39) 86 rfl w.heap.size 89 i0 (.agg #[.int .i64 0, .int .i64 0, .int .i64 0]) 24 Try.underlying86 hi0 hzi0 hzi1 hzi2 rfl _ (accB a b k ++ (x.take t).flatMap (bdOf (k : Int))) rfl (HO2.out.ext (by (unfold Ext; repeat (first | exact Below.refl _ _ | assumption | refine Below.drew ?_ | refine below_drewN ?_ _ | refine Below.alloc ?_ (by first | exact Nat.le_refl _ | (simp; done) | (simp; omega) | omega) _ | refine Below.setCell ?_ (by first | exact Nat.le_refl _ | (simp; done) | (simp; omega) | omega) _)))) (some ⟨wr.heap.size + 1, 0, none⟩) 2 2 ([(max f 0, (k : Int), 1), (min u 1099511627776, (k : Int), -1)]) rfl (fun _ => ⟨_, _, rfl⟩) (by omega) (plain_bd.lit (Ext.refl _) (bd2_all _ _ _ _ HW1.out HW2.out) (by simp) rfl (by omega)) (by have := HLE.out; unfold maxLen; omega) (by have := HLE.out; omega) (by have := hx2.size; simp; omega) ?_; intro v2 w2 hown2 hg2; have X2 := HO2.out.below hx2 (Nat.le_refl _) (grown_of (by (unfold Ext; repeat (first | exact Below.refl _ _ | assumption | refine Below.drew ?_ | refine below_drewN ?_ _ | refine Below.alloc ?_ (by first | exact Nat.le_refl _ | (simp; done) | (simp; omega) | omega) _ | refine Below.setCell ?_ (by first | exact Nat.le_refl _ | (simp; done) | (simp; omega) | omega) _))) hg2); have HO3 := Lib.hid hown2; clear hown2 hg2 HO2)
            go_roundw
            case rel => exact ⟨t + 1, by omega, by go_num, by
              have := HO3.out
              rw [List.append_assoc, ← HSS.out] at this
              rw [List.take_add_one, GS.out, List.flatMap_append]
              simpa using this, X2⟩
            case measure => simp [intOf]; omega
          · have hcd : decide (max f 0 < min u 1099511627776) = false := decide_eq_false hc
            have HSS : Hid (bdOf (k : Int) (f, u) = []) := Lib.hid (bdOf_no hc)
            go_wp2
            go_quiet (fail)
            go_wp2
            go_roundw
            case rel => exact ⟨t + 1, by omega, by go_num, by
              rw [List.take_add_one, GS.out, List.flatMap_append, show (some (f, u)).toList.flatMap (bdOf (k : Int)) = [] from by simpa using HSS.out, List.append_nil]
              exact HO2.out.ext (by (unfold Ext; repeat (first | exact Below.refl _ _ | assumption | refine Below.drew ?_ | refine below_drewN ?_ _ | refine Below.alloc ?_ (by first | exact Nat.le_refl _ | (simp; done) | (simp; omega) | omega) _ | refine Below.setCell ?_ (by first | exact Nat.le_refl _ | (simp; done) | (simp; omega) | omega) _))), Ext.trans hx2 (by (unfold Ext; repeat (first | exact Below.refl _ _ | assumption | refine Below.drew ?_ | refine below_drewN ?_ _ | refine Below.alloc ?_ (by first | exact Nat.le_refl _ | (simp; done) | (simp; omega) | omega) _ | refine Below.setCell ?_ (by first | exact Nat.le_refl _ | (simp; done) | (simp; omega) | omega) _)))⟩
            case measure => simp [intOf]; omega
        · obtain rfl : t = m := by omega
          have e0 : x.take t = x := List.take_of_length_le (by rw [HRX.out.1]; omega)
          rw [e0, HSX.out] at HO2
          clear e0
          go_wp2
          go_roundw
          case rel => exact ⟨k + 1, by omega, by go_num, HO2.out, hx2⟩
          case measure => simp [intOf]; omega
    · obtain rfl : k = 2 := by omega
      obtain ⟨L, hL⟩ : ∃ L, accB a b 2 = L := ⟨_, rfl⟩
      have HLL : Hid (L = bds a b) := Lib.hid (by rw [← hL]; rfl)
      rw [hL] at HO
      clear hL
      by_cases h0 : 0 < L.length
      · obtain ⟨g, cp, rfl, hg⟩ := HO.out.full h0
        have HG := Lib.hid hg
        have HXX := Lib.hid hx
        have HH : Hid (HoldsK encB 3 wr g 0 L.toArray) := Lib.hid (own_holds HO.out)
        have hcon := AnyQ.slices_SortFunc Try.sortBd 3 isAgg_bd sizeOf_bd encB (fun _ => rfl) (fun x v hv => by simp [encB] at hv; rcases hv with rfl | rfl | rfl <;> rfl) (fun x y : Bd => Lib.compareInt x.1 y.1) swoB 81 #[] g 0 cp L.toArray wr (enters_of Try.func81 (by kernel_rfl) rfl) (cmpLaysB g 0 L.toArray.size wr) HH.out (HO.out.lt g rfl).2 (by
          have := bds_len a b
          have := hn6.out
          rw [HLL.out]; simp; omega)
        change Calls Try.prog 80 _ _ _ at hcon
        have HC := Lib.hid hcon
        clear hcon hg h0
        go_wp2_with fail
        refine HC.out.mono ?_
        rintro e w2 ⟨rfl, d', n, os, hp, hs, rfl⟩
        have HB : Hid (BdOk a b d'.toList) := Lib.hid (sorted_ok (by rw [HLL.out]) hp hs)
        have HS2 := Lib.hid (own_sorted (n := n) (os := os) HO.out (by have := hp.1; simpa using this) fun x hx => bd_wf (HB.out.mem hx))
        have HX2 := Lib.hid (ext_sorted (n := n) (d := d') (os := os) HXX.out HG.out)
        obtain ⟨W, hW⟩ : ∃ W, sortWorldK encB 3 wr g 0 n d' os = W := ⟨_, rfl⟩
        rw [hW] at HX2 ⊢
        have HS3 : Hid (LBd.Row W (some ⟨g, 0, none⟩) L.length d'.toList) := Lib.hid (by have := HS2.out; rw [← hW]; first | done | simpa using this)
        obtain ⟨hle, hcm⟩ := own_cap HO.out
        clear hp hs HS2 hW HC HH HO
        go_wp2
        go_ret
        exact ⟨⟨_, _, rfl, ⟨_, _, _, rfl, HS3.out, hle, hcm, fun _ => ⟨_, _, rfl⟩⟩, fun g' hg' => by injection hg' with hg'; subst hg'; exact HG.out, HB⟩, HX2.out⟩
      · obtain rfl : L = [] := List.eq_nil_of_length_eq_zero (by omega)
        obtain ⟨q, cp, rfl, hr, hle, hcm, hpl⟩ := HO.out.opened
        have HR := Lib.hid hr
        have HPL := Lib.hid hpl
        have HB : Hid (BdOk a b []) := Lib.hid ⟨by rw [← HLL.out], by intro i j x y _ h; simp at h⟩
        have HLT := Lib.hid HO.out.lt
        have hcon := AnyF.slices_SortFunc_none Try.sortBd q cp (.func (.func 81) #[] #[]) wr
        change Calls Try.prog 80 _ _ _ at hcon
        have HC := Lib.hid hcon
        clear hcon hr hpl h0
        go_wp2_with fail
        refine HC.out.mono ?_
        rintro e w2 ⟨rfl, rfl⟩
        go_wp2
        go_ret
        exact ⟨⟨_, _, rfl, ⟨_, _, _, rfl, HR.out, hle, hcm, HPL.out⟩, fun g' hg' => (HLT.out g' hg').1, HB⟩, hx⟩
end Go.Proofs.Ytocnopgpdlfkjaa.Sp
