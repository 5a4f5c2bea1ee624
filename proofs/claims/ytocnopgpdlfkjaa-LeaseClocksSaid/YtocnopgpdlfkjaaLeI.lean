/- Leases: what leases come to, by steps. -/
import Derived.Test.YtocnopgpdlfkjaaLeH
namespace Go.Proofs.Ytocnopgpdlfkjaa.Ls
open Go.RowKit Go.Proofs.Ytocnopgpdlfkjaa Go.Sort
set_option linter.unusedVariables false

structure Stp where
  d : Int
  m : Int
  q : Le
def encS (x : Stp) : List Value := .int .i64 x.d :: .int .i64 x.m :: encL x.q
def StpWf (x : Stp) : Prop := (Lit.int .i64 x.d).wf = true ∧ (Lit.int .i64 x.m).wf = true ∧ LeWf x.q
def LStp : Lay Stp where
  size := 9
  pos := by omega
  R := fun _ cs x => cs = encS x ∧ StpWf x
  len := fun h => by rw [h.1]; rfl
  ext := fun h _ => h
  one := fun h => by rw [h.1]; intro u hu; simp [encS, encL] at hu; rcases hu with rfl | rfl | rfl | rfl | rfl | rfl | rfl | rfl | rfl <;> rfl
theorem opens_stp : Lay.Opens 63 LStp := by
  have h1 : Lay.Opens 63 ((Lay.int .i64).pair ((Lay.int .i64).pair LLe)) := Lay.Opens.struct Try.underlying63 rfl (by kernel_rfl) (Lay.OpensFs.cons rfl opens_int (Lay.OpensFs.cons rfl opens_int (Lay.OpensFs.last rfl opens_le)))
  refine ⟨h1.1, fun H enc w fuel cs d h => ?_⟩
  obtain ⟨x, a, b, rfl, ⟨rfl, h2⟩, a2, b2, rfl, ⟨rfl, h3⟩, rfl, h4⟩ := h1.2 H enc w fuel cs d h
  exact ⟨⟨x.1, x.2.1, x.2.2⟩, rfl, h2, h3, h4⟩
theorem opens_stps : Lay.Opens 39 (Lay.slice LStp) := Lay.Opens.slice Try.underlying39 (by kernel_rfl) opens_stp
theorem stp_at {w : World} {p : Option Addr} {n : Nat} {l : List Stp} (h : LStp.Row w p n l) {j : Nat} {x : Stp} (hj : l[j]? = some x) :
    ∃ b off, p = some ⟨b, off, none⟩ ∧ StpWf x ∧ w.cell? ⟨b, off + j * 9, none⟩ = some (.int .i64 x.d) ∧ w.cell? ⟨b, off + j * 9 + 1, none⟩ = some (.int .i64 x.m) ∧ w.cell? ⟨b, off + j * 9 + 2, none⟩ = some (.int .i64 x.q.c) ∧ w.cell? ⟨b, off + j * 9 + 3, none⟩ = some (.int .i64 x.q.i) ∧ w.cell? ⟨b, off + j * 9 + 4, none⟩ = some (.int .i64 x.q.k) ∧ w.cell? ⟨b, off + j * 9 + 5, none⟩ = some (.int .i64 x.q.f) ∧ w.cell? ⟨b, off + j * 9 + 6, none⟩ = some (.int .i64 x.q.t) ∧ w.cell? ⟨b, off + j * 9 + 7, none⟩ = some (.int .i64 x.q.u) ∧ w.cell? ⟨b, off + j * 9 + 8, none⟩ = some (.int .i64 x.q.e) := by
  obtain ⟨b, off, y, cs, rfl, hy, ⟨rfl, hw⟩, hc⟩ := h.get (j := j) (by rw [← h.1]; exact (List.getElem?_eq_some_iff.1 hj).1)
  obtain rfl : x = y := by simpa [hj] using hy
  exact ⟨b, off, rfl, hw, hc 0 _ rfl, hc 1 _ rfl, hc 2 _ rfl, hc 3 _ rfl, hc 4 _ rfl, hc 5 _ rfl, hc 6 _ rfl, hc 7 _ rfl, hc 8 _ rfl⟩
def stepT (s : List Le × Int) (x : Stp) : List Le × Int :=
  if x.d = 0 then ((askL s.1 s.2 x.q x.m).1, s.2) else if x.d = 1 then (backL s.1 x.q.c x.q.i, s.2) else if x.d = 2 then (s.1, if 0 < x.m ∧ x.m < 1000 then s.2 + x.m else s.2) else (overL s.1 s.2, s.2)
def runT (l : List Stp) : List Le × Int := l.foldl stepT ([], 0)
theorem runT_snoc (l : List Stp) (k : Nat) (x : Stp) (h : l[k]? = some x) : runT (l.take (k + 1)) = stepT (runT (l.take k)) x := by
  unfold runT; rw [List.take_add_one, h]; simp
def tabL (l : List Stp) : List Le × Int := if l.length ≤ 40 then runT l else ([], 0)
theorem ask_len (l : List Le) (now : Int) (q : Le) (m : Int) : (askL l now q m).1.length ≤ l.length + 1 := by
  unfold askL
  have h1 : (overL l now).length ≤ l.length := List.length_filter_le _ _
  have h2 : (othersL (overL l now) q).length ≤ (overL l now).length := List.length_filter_le _ _
  split
  · simp
  · split
    · simp; omega
    · split
      · simp; omega
      · simp; omega
theorem stepT_bd (s : List Le × Int) (x : Stp) (k : Nat) (h : s.1.length ≤ k ∧ 0 ≤ s.2 ∧ s.2 ≤ 1000 * (k : Int)) : (stepT s x).1.length ≤ k + 1 ∧ 0 ≤ (stepT s x).2 ∧ (stepT s x).2 ≤ 1000 * ((k + 1 : Nat) : Int) := by
  have h1 := ask_len s.1 s.2 x.q x.m
  have h2 : (overL s.1 s.2).length ≤ s.1.length := List.length_filter_le _ _
  have h3 : (backL s.1 x.q.c x.q.i).length ≤ s.1.length := List.length_filter_le _ _
  unfold stepT
  split
  · exact ⟨by simp only; omega, by simp only; omega, by simp only; omega⟩
  · split
    · exact ⟨by simp only; omega, by simp only; omega, by simp only; omega⟩
    · split
      · refine ⟨by simp only; omega, ?_, ?_⟩ <;> simp only <;> split <;> omega
      · exact ⟨by simp only; omega, by simp only; omega, by simp only; omega⟩
theorem runT_bd (l : List Stp) : (runT l).1.length ≤ l.length ∧ 0 ≤ (runT l).2 ∧ (runT l).2 ≤ 1000 * (l.length : Int) := by
  have : ∀ k, k ≤ l.length → (runT (l.take k)).1.length ≤ k ∧ 0 ≤ (runT (l.take k)).2 ∧ (runT (l.take k)).2 ≤ 1000 * (k : Int) := by
    intro k
    induction k with
    | zero => intro _; exact ⟨Nat.le_refl _, Int.le_refl _, by simp [runT]⟩
    | succ k ih =>
      intro hk
      rw [runT_snoc l k l[k] (List.getElem?_eq_getElem hk)]
      exact stepT_bd _ _ _ (ih (by omega))
  have h := this l.length (Nat.le_refl _)
  rwa [List.take_length] at h
def TabR (w : World) (l : List Stp) (n : Nat) (v nw i : Value) (wr : World) : Prop := ∃ k : Nat, i = .int .i64 k ∧ k ≤ n ∧ nw = .int .i64 (runT (l.take k)).2 ∧ LLe.Sl wr v (runT (l.take k)).1 ∧ Ext w wr
def RetTab (l : List Stp) (w : World) (e : Ending) (w' : World) : Prop := (∃ v, e = .returned (.tuple #[v, .int .i64 (tabL l).2, .bool (decide (l.length ≤ 40))]) ∧ LLe.Sl w' v (tabL l).1) ∧ Ext w w'

set_option maxRecDepth 100000 in
set_option maxHeartbeats 4000000 in
theorem table_any (p : Option Addr) (n c : Nat) (l : List Stp) (w : World) (hl : LStp.Row w p n l) : Calls Try.prog 23 #[.slice p n c] w (RetTab l w) := by
  have HP := Lib.hid hl
  have hn63 := hl.2.1
  clear hl
  by_cases h40 : n ≤ 40
  · have h40' : ¬ (40 : Int) < (n : Int) := by omega
    have H40 := Lib.hid h40
    clear h40
    go_enter Try.func23, Try.ntmps23
    go_wp2
    go_loopw [5, 6, 7] (fun v nw i wr => TabR w l n v nw i wr) (fun _ _ i _ => n - (intOf i).toNat)
    case atStart => exact ⟨0, rfl, by omega, rfl, ⟨_, _, _, rfl, Lay.Row.nil _ _ _, by omega, by omega, fun h => by omega⟩, Ext.alloc _ _⟩
    case round =>
      obtain ⟨k, rfl, hk, rfl, hs, hx⟩ := hrel
      by_cases hlt : k < n
      · obtain ⟨x, gx⟩ := get_of l k (by rw [HP.out.1]; exact hlt)
        obtain ⟨b, off, rfl, hw, c0, c1, c2, c3, c4, c5, c6, c7, c8⟩ := stp_at (HP.out.ext hx) gx
        have HRS := Lib.hid (runT_snoc l k x gx)
        obtain ⟨L, T, hLT⟩ : ∃ L T, runT (l.take k) = (L, T) := ⟨_, _, rfl⟩
        have HBD : Hid (L.length ≤ 40 ∧ 0 ≤ T ∧ T ≤ 1000000000000) := Lib.hid (by
          have h1 := runT_bd (l.take k)
          have h2 := H40.out
          rw [hLT] at h1
          simp only [List.length_take] at h1
          have h3 : min k l.length ≤ 40 := by omega
          refine ⟨by omega, h1.2.1, by omega⟩)
        rw [hLT] at hs HRS ⊢
        simp only at hs
        have HW := Lib.hid hw
        have HSL := Lib.hid hs
        have HX := Lib.hid hx
        obtain ⟨po, no, co, rfl, _⟩ := hs
        have hlt' : (k : Int) < (n : Int) := by omega
        have hlt0 : (0 : Int) ≤ (k : Int) := by omega
        have HXA := Lib.hid (Ext.trans HX.out (Ext.alloc wr (.cells #[.int .i64 x.d, .int .i64 x.m, .int .i64 x.q.c, .int .i64 x.q.i, .int .i64 x.q.k, .int .i64 x.q.f, .int .i64 x.q.t, .int .i64 x.q.u, .int .i64 x.q.e] 63)))
        have HSA := Lib.hid (HSL.out.ext (Ext.alloc wr (.cells #[.int .i64 x.d, .int .i64 x.m, .int .i64 x.q.c, .int .i64 x.q.i, .int .i64 x.q.k, .int .i64 x.q.f, .int .i64 x.q.t, .int .i64 x.q.u, .int .i64 x.q.e] 63)))
        clear gx hw hx hLT
        by_cases hd0 : x.d = 0
        · have dd0 : (x.d == 0) = true := by simp [hd0]
          have HST : Hid (stepT (L, T) x = ((askL L T x.q x.m).1, T)) := Lib.hid (if_pos hd0)
          clear hd0
          go_wp2_with fail
          refine (ask_v _ L T x.q x.m _ HSA.out (by have := HBD.out; omega) HW.out.2.2 (by have := HBD.out; omega)).mono ?_
          rintro e w3 ⟨⟨v, kk, K, r, rfl, rfl, hs2, hk2, _⟩, hx3⟩
          have HS2 := Lib.hid hs2
          obtain ⟨p2, n2, c2, rfl, _⟩ := hs2
          obtain ⟨pk, nk, ck, rfl, _⟩ := hk2
          have HX3 := Lib.hid (Ext.trans HXA.out hx3)
          obtain ⟨B, hB⟩ : ∃ B, (askL L T x.q x.m).2 = B := ⟨_, rfl⟩
          rw [hB]
          clear hx3 hB
          go_wp2
          go_roundw
          case rel => exact ⟨k + 1, by go_num, by omega, by rw [HRS.out, HST.out], by rw [HRS.out, HST.out]; exact HS2.out, HX3.out⟩
          case measure => simp [intOf]; omega
        have dd0 : (x.d == 0) = false := by simp [hd0]
        by_cases hd1 : x.d = 1
        · have dd1 : (x.d == 1) = true := by simp [hd1]
          have HST : Hid (stepT (L, T) x = (backL L x.q.c x.q.i, T)) := Lib.hid (by unfold stepT; rw [if_neg hd0, if_pos hd1])
          clear hd0 hd1
          go_wp2_with fail
          refine (back_v _ L x.q.c x.q.i _ HSA.out (by have := HBD.out; omega)).mono ?_
          rintro e w3 ⟨⟨v, rfl, hown⟩, hx3⟩
          have HS2 := Lib.hid hown.sl
          obtain ⟨p2, c2, rfl, _⟩ := hown.opened
          have HX3 := Lib.hid (Ext.trans HXA.out hx3)
          clear hx3 hown
          go_wp2
          go_roundw
          case rel => exact ⟨k + 1, by go_num, by omega, by rw [HRS.out, HST.out], by rw [HRS.out, HST.out]; exact HS2.out, HX3.out⟩
          case measure => simp [intOf]; omega
        have dd1 : (x.d == 1) = false := by simp [hd1]
        by_cases hd2 : x.d = 2
        · have dd2 : (x.d == 2) = true := by simp [hd2]
          by_cases hm0 : 0 < x.m
          · have dm0 : decide (0 < x.m) = true := decide_eq_true hm0
            by_cases hm1 : x.m < 1000
            · have dm1 : decide (x.m < 1000) = true := decide_eq_true hm1
              have HST : Hid (stepT (L, T) x = (L, T + x.m)) := Lib.hid (by unfold stepT; rw [if_neg hd0, if_neg hd1, if_pos hd2, if_pos ⟨hm0, hm1⟩])
              have hwr : IntKind.i64.wrap (T + x.m) = T + x.m := IntWalk.i64_in _ (by have := HBD.out; omega)
              clear hd0 hd1 hd2 hm0 hm1
              go_wp2
              go_roundw
              case rel => exact ⟨k + 1, by go_num, by omega, by rw [HRS.out, HST.out], by rw [HRS.out, HST.out]; exact HSA.out, HXA.out⟩
              case measure => simp [intOf]; omega
            · have dm1 : decide (x.m < 1000) = false := decide_eq_false hm1
              have HST : Hid (stepT (L, T) x = (L, T)) := Lib.hid (by unfold stepT; rw [if_neg hd0, if_neg hd1, if_pos hd2, if_neg (fun h => hm1 h.2)])
              clear hd0 hd1 hd2 hm0 hm1
              go_wp2
              go_roundw
              case rel => exact ⟨k + 1, by go_num, by omega, by rw [HRS.out, HST.out], by rw [HRS.out, HST.out]; exact HSA.out, HXA.out⟩
              case measure => simp [intOf]; omega
          · have dm0 : decide (0 < x.m) = false := decide_eq_false hm0
            have HST : Hid (stepT (L, T) x = (L, T)) := Lib.hid (by unfold stepT; rw [if_neg hd0, if_neg hd1, if_pos hd2, if_neg (fun h => hm0 h.1)])
            clear hd0 hd1 hd2 hm0
            go_wp2
            go_roundw
            case rel => exact ⟨k + 1, by go_num, by omega, by rw [HRS.out, HST.out], by rw [HRS.out, HST.out]; exact HSA.out, HXA.out⟩
            case measure => simp [intOf]; omega
        have dd2 : (x.d == 2) = false := by simp [hd2]
        have HST : Hid (stepT (L, T) x = (overL L T, T)) := Lib.hid (by unfold stepT; rw [if_neg hd0, if_neg hd1, if_neg hd2])
        clear hd0 hd1 hd2
        go_wp2_with fail
        refine (over_v _ L T _ HSA.out (by have := HBD.out; omega)).mono ?_
        rintro e w3 ⟨⟨v, rfl, hown⟩, hx3⟩
        have HS2 := Lib.hid hown.sl
        obtain ⟨p2, c2, rfl, _⟩ := hown.opened
        have HX3 := Lib.hid (Ext.trans HXA.out hx3)
        clear hx3 hown
        go_wp2
        go_roundw
        case rel => exact ⟨k + 1, by go_num, by omega, by rw [HRS.out, HST.out], by rw [HRS.out, HST.out]; exact HS2.out, HX3.out⟩
        case measure => simp [intOf]; omega
      · obtain rfl : k = n := by omega
        have e0 : l.take k = l := List.take_of_length_le (by rw [HP.out.1]; omega)
        rw [e0] at hs ⊢
        have HTL : Hid (tabL l = runT l) := Lib.hid (if_pos (by rw [HP.out.1]; exact H40.out))
        have HSL := Lib.hid hs
        obtain ⟨po, no, co, rfl, _⟩ := hs
        clear e0
        go_wp2
        go_ret3
        exact ⟨⟨_, by rw [HTL.out, decide_eq_true (by rw [HP.out.1]; exact H40.out)]; rfl, by rw [HTL.out]; exact HSL.out⟩, hx⟩
  · have h40' : (40 : Int) < (n : Int) := by omega
    have HTL : Hid (tabL l = ([], 0)) := Lib.hid (if_neg (by rw [HP.out.1]; exact h40))
    have HNL : Hid (decide (l.length ≤ 40) = false) := Lib.hid (decide_eq_false (by rw [HP.out.1]; exact h40))
    clear h40
    go_enter Try.func23, Try.ntmps23
    go_wp2
    go_ret3
    exact ⟨⟨_, by rw [HTL.out, HNL.out]; rfl, by rw [HTL.out]; exact ⟨_, _, _, rfl, Lay.Row.nil _ _ _, by omega, by omega, fun h => by omega⟩⟩, Ext.alloc _ _⟩
end Go.Proofs.Ytocnopgpdlfkjaa.Ls
