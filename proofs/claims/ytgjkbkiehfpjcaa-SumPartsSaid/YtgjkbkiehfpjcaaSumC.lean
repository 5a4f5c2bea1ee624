/- Contract of Check. -/
import Derived.Test.YtgjkbkiehfpjcaaSumB
namespace Go.Proofs.Ytgjkbkiehfpjcaa.Sm
open Go.RowKit Go.Proofs.Ytgjkbkiehfpjcaa Go.Proofs.Ytgjkbkiehfpjcaa.Crc
set_option linter.unusedVariables false

/-- the first place at which two rows part; -1: nowhere -/
def chkFrom : List Int → List Int → Nat → Int
  | [], [], _ => -1
  | [], _ :: _, i => i
  | _ :: _, [], i => i
  | x :: a, y :: b, i => if x = y then chkFrom a b (i + 1) else i
def chk (a b : List Int) : Int := chkFrom a b 0

theorem at0_zero (x : Int) (l : List Int) : at0 (x :: l) 0 = x := rfl
theorem at0_succ (x : Int) (l : List Int) (j : Nat) : at0 (x :: l) (j + 1) = at0 l j := rfl

theorem chkFrom_at : ∀ (a b : List Int) (i k : Nat), k ≤ a.length → k ≤ b.length → (∀ j, j < k → at0 a j = at0 b j) → ((k < a.length ∧ k < b.length ∧ at0 a k ≠ at0 b k) ∨ (k = a.length ∧ k < b.length) ∨ (k = b.length ∧ k < a.length)) → chkFrom a b i = (i + k : Nat) := by
  intro a
  induction a with
  | nil =>
    intro b i k h1 h2 h3 h4
    have : k = 0 := by simpa using h1
    subst this
    cases b with
    | nil => simp at h4
    | cons y b => rfl
  | cons x a ih =>
    intro b i k h1 h2 h3 h4
    cases b with
    | nil =>
      have : k = 0 := by simpa using h2
      subst this
      rfl
    | cons y b =>
      by_cases hk : k = 0
      · subst hk
        have : x ≠ y := by
          rcases h4 with h4 | h4 | h4
          · exact h4.2.2
          · simp at h4
          · simp at h4
        simp [chkFrom, this]
      · have h0 := h3 0 (by omega)
        rw [at0_zero, at0_zero] at h0
        rw [chkFrom, if_pos h0, ih b (i + 1) (k - 1) (by simp at h1; omega) (by simp at h2; omega) (fun j hj => by have := h3 (j + 1) (by omega); rwa [at0_succ, at0_succ] at this)]
        · congr 1; omega
        · obtain ⟨k', rfl⟩ : ∃ k', k = k' + 1 := ⟨k - 1, by omega⟩
          simp only [List.length_cons, at0_succ, Nat.add_lt_add_iff_right, Nat.add_right_cancel_iff] at h4
          simpa using h4
theorem chkFrom_same : ∀ (a b : List Int) (i : Nat), a.length = b.length → (∀ j, j < a.length → at0 a j = at0 b j) → chkFrom a b i = -1 := by
  intro a
  induction a with
  | nil => intro b i h _; cases b with
    | nil => rfl
    | cons _ _ => simp at h
  | cons x a ih =>
    intro b i h h3
    cases b with
    | nil => simp at h
    | cons y b =>
      have h0 := h3 0 (by simp)
      rw [at0_zero, at0_zero] at h0
      rw [chkFrom, if_pos h0, ih b (i + 1) (by simpa using h) (fun j hj => by have := h3 (j + 1) (by simp; omega); rwa [at0_succ, at0_succ] at this)]
theorem chk_at (a b : List Int) (k : Nat) (h1 : k ≤ a.length) (h2 : k ≤ b.length) (h3 : ∀ j, j < k → at0 a j = at0 b j) (h4 : (k < a.length ∧ k < b.length ∧ at0 a k ≠ at0 b k) ∨ (k = a.length ∧ k < b.length) ∨ (k = b.length ∧ k < a.length)) : chk a b = k := by
  have := chkFrom_at a b 0 k h1 h2 h3 h4
  simpa [chk] using this
theorem chk_same (a b : List Int) (h : a.length = b.length) (h3 : ∀ j, j < a.length → at0 a j = at0 b j) : chk a b = -1 := chkFrom_same a b 0 h h3

theorem bsums_length (l : List Nat) : (bsums l).length = (l.length + 15) / 16 := by simp [bsums]
theorem at0_bsums (l : List Nat) (i : Nat) (h : i < (l.length + 15) / 16) : at0 (bsums l) i = bsum l i := by simp [at0, bsums, List.getD_eq_getElem?_getD, h]

def CheckR (w : World) (l : List Nat) (zs : List Int) (M : Nat) (i : Value) (wr : World) : Prop :=
  ∃ k : Nat, i = .int .i64 k ∧ k ≤ M ∧ Hid (∀ j, j < k → (bsum l j : Int) = at0 zs j) ∧ Ext w wr

set_option maxRecDepth 100000 in
set_option maxHeartbeats 4000000 in
theorem check_any (p q : Option Addr) (n c s d : Nat) (l : List Nat) (zs : List Int) (w : World) (hp : RowB w p n l) (hq : RowI .i64 w q s zs) (hn : n ≤ 1000000) (hc : n ≤ c) :
    Calls Try.prog 15 #[.slice p n c, .slice q s d] w fun e w' => e = .returned (.int .i64 (chk (bsums l) zs)) ∧ Ext w w' := by
  have HP := Lib.hid hp
  have HQ := Lib.hid hq
  have hs := hq.2.1
  clear hp hq
  obtain ⟨m, hm⟩ : ∃ m, m = (n + 15) / 16 := ⟨_, rfl⟩
  have HM := Lib.hid hm
  have hm1 : m ≤ 1000000 := by omega
  clear hm
  have LB : Hid ((bsums l).length = m) := by rw [bsums_length, HP.out.length]; exact Lib.hid HM.out.symm
  have LZ : Hid (zs.length = s) := HQ.out.1
  have AB : Hid (∀ i, i < m → at0 (bsums l) i = bsum l i) := Lib.hid fun i hi => at0_bsums l i (by rw [HP.out.length, ← HM.out]; exact hi)
  by_cases hms : m ≤ s
  · have M1 : m ≤ m := by omega
    have M2 : m ≤ s := by omega
    go_enter Try.func15, Try.ntmps15
    go_wp2_with fail
    refine (many_any _ _ _ m _ (by omega) HM.out).mono ?_
    rintro e w' ⟨rfl, rfl⟩
    go_wp2
    go_loopw [6, 13] (fun _ i wr => CheckR w l zs m i wr) (fun _ i _ => m - (intOf i).toNat)
    case atStart => exact ⟨0, rfl, by omega, Lib.hid (by intro j hj; omega), Ext.refl _⟩
    case round =>
      obtain ⟨k, rfl, hk, HE, hx⟩ := hrel
      by_cases hlt : k < m
      · have hkn : 16 * k < n := by have := HM.out; omega
        obtain ⟨b, off, rfl, _⟩ := HP.out.cells (by omega)
        obtain ⟨b2, off2, rfl, hc2⟩ := HQ.out.2.2 (by omega)
        have cz := hx.cell (hc2 k (by omega))
        clear hc2
        have hlt' : (k : Int) < (m : Int) := by omega
        have hlt2 : (k : Int) < (s : Int) := by omega
        have hlt0 : (0 : Int) ≤ (k : Int) := by omega
        have hl := HP.out.length
        have hsub := (HP.out.ext (Ext.drew hx)).sub (16 * k) (min 16 (n - 16 * k)) (by omega)
        have HS := Lib.hid hsub
        clear hsub hl
        have hbs : sum (List.take (min 16 (n - 16 * k)) (List.drop (16 * k) l)) = bsum l k := by unfold bsum blk; rw [HP.out.length]
        have HBS := Lib.hid hbs
        clear hbs
        by_cases hne : (bsum l k : Int) = at0 zs k
        · have hb : ((bsum l k : Int) != at0 zs k) = false := by simp [hne]
          have HNE := Lib.hid hne
          clear hne
          go_wp2
          go_region_with (first | (go_at_call 20; refine (block_any b off n c k _ (by omega) hc hkn).mono ?_; rintro e w' ⟨rfl, rfl⟩) | (go_at_call 10; refine (of_any _ _ _ _ _ HS.out).mono ?_; rintro e w2 ⟨rfl, hx2⟩; have cz2 := hx2.cell (by exact cz); rw [HBS.out]))
          all_goals
            go_wp2
            go_roundw
            case rel => exact ⟨k + 1, by go_num, by omega, Lib.hid (fun j hj => by
              by_cases e : j = k
              · subst e; exact HNE.out
              · exact HE.out j (by omega)), Ext.trans (Ext.drew hx) hx2⟩
            case measure => simp [intOf]; omega
        · have hb : ((bsum l k : Int) != at0 zs k) = true := by simp [hne]
          have HNE := Lib.hid hne
          clear hne
          go_wp2
          go_region_with (first | (go_at_call 20; refine (block_any b off n c k _ (by omega) hc hkn).mono ?_; rintro e w' ⟨rfl, rfl⟩) | (go_at_call 10; refine (of_any _ _ _ _ _ HS.out).mono ?_; rintro e w2 ⟨rfl, hx2⟩; have cz2 := hx2.cell (by exact cz); rw [HBS.out]))
          all_goals
            go_wp2
            go_ret
            exact ⟨ret_int (chk_at _ _ k (by rw [LB.out]; omega) (by rw [LZ.out]; omega) (fun j hj => by rw [AB.out j (by omega)]; exact HE.out j hj) (.inl ⟨by rw [LB.out]; omega, by rw [LZ.out]; omega, by rw [AB.out k (by omega)]; exact HNE.out⟩)).symm, Ext.trans (Ext.drew hx) hx2⟩
      · have hkM : k = m := by omega
        have HKM := Lib.hid hkM
        clear hkM
        by_cases heq : m = s
        · have hb : ((m : Int) != (s : Int)) = false := by simp [heq]
          have HEQ := Lib.hid heq
          clear heq
          go_wp2
          go_ret
          exact ⟨ret_int (chk_same _ _ (by rw [LB.out, LZ.out, HEQ.out]) (fun j hj => by
            rw [LB.out] at hj
            have h2 := HEQ.out
            rw [AB.out j (by omega)]; exact HE.out j (by have := HKM.out; omega))).symm, hx⟩
        · have hb : ((m : Int) != (s : Int)) = true := by simp; omega
          have HEQ := Lib.hid heq
          clear heq
          go_wp2
          all_goals
            go_ret
            exact ⟨ret_int (chk_at _ _ m (by rw [LB.out]; omega) (by rw [LZ.out]; omega) (fun j hj => by rw [AB.out j (by omega)]; exact HE.out j (by have := HKM.out; omega)) (.inr (by rw [LB.out, LZ.out]; have := HEQ.out; omega))).symm, hx⟩
  · have M1 : s ≤ m := by omega
    have M2 : s ≤ s := by omega
    go_enter Try.func15, Try.ntmps15
    go_wp2_with fail
    refine (many_any _ _ _ m _ (by omega) HM.out).mono ?_
    rintro e w' ⟨rfl, rfl⟩
    go_wp2
    go_loopw [6, 13] (fun _ i wr => CheckR w l zs s i wr) (fun _ i _ => s - (intOf i).toNat)
    case atStart => exact ⟨0, rfl, by omega, Lib.hid (by intro j hj; omega), Ext.refl _⟩
    case round =>
      obtain ⟨k, rfl, hk, HE, hx⟩ := hrel
      by_cases hlt : k < s
      · have hkn : 16 * k < n := by have := HM.out; omega
        obtain ⟨b, off, rfl, _⟩ := HP.out.cells (by omega)
        obtain ⟨b2, off2, rfl, hc2⟩ := HQ.out.2.2 (by omega)
        have cz := hx.cell (hc2 k (by omega))
        clear hc2
        have hlt' : (k : Int) < (s : Int) := by omega
        have hlt2 : (k : Int) < (s : Int) := by omega
        have hlt0 : (0 : Int) ≤ (k : Int) := by omega
        have hl := HP.out.length
        have hsub := (HP.out.ext (Ext.drew hx)).sub (16 * k) (min 16 (n - 16 * k)) (by omega)
        have HS := Lib.hid hsub
        clear hsub hl
        have hbs : sum (List.take (min 16 (n - 16 * k)) (List.drop (16 * k) l)) = bsum l k := by unfold bsum blk; rw [HP.out.length]
        have HBS := Lib.hid hbs
        clear hbs
        by_cases hne : (bsum l k : Int) = at0 zs k
        · have hb : ((bsum l k : Int) != at0 zs k) = false := by simp [hne]
          have HNE := Lib.hid hne
          clear hne
          go_wp2
          go_region_with (first | (go_at_call 20; refine (block_any b off n c k _ (by omega) hc hkn).mono ?_; rintro e w' ⟨rfl, rfl⟩) | (go_at_call 10; refine (of_any _ _ _ _ _ HS.out).mono ?_; rintro e w2 ⟨rfl, hx2⟩; have cz2 := hx2.cell (by exact cz); rw [HBS.out]))
          all_goals
            go_wp2
            go_roundw
            case rel => exact ⟨k + 1, by go_num, by omega, Lib.hid (fun j hj => by
              by_cases e : j = k
              · subst e; exact HNE.out
              · exact HE.out j (by omega)), Ext.trans (Ext.drew hx) hx2⟩
            case measure => simp [intOf]; omega
        · have hb : ((bsum l k : Int) != at0 zs k) = true := by simp [hne]
          have HNE := Lib.hid hne
          clear hne
          go_wp2
          go_region_with (first | (go_at_call 20; refine (block_any b off n c k _ (by omega) hc hkn).mono ?_; rintro e w' ⟨rfl, rfl⟩) | (go_at_call 10; refine (of_any _ _ _ _ _ HS.out).mono ?_; rintro e w2 ⟨rfl, hx2⟩; have cz2 := hx2.cell (by exact cz); rw [HBS.out]))
          all_goals
            go_wp2
            go_ret
            exact ⟨ret_int (chk_at _ _ k (by rw [LB.out]; omega) (by rw [LZ.out]; omega) (fun j hj => by rw [AB.out j (by omega)]; exact HE.out j hj) (.inl ⟨by rw [LB.out]; omega, by rw [LZ.out]; omega, by rw [AB.out k (by omega)]; exact HNE.out⟩)).symm, Ext.trans (Ext.drew hx) hx2⟩
      · have hkM : k = s := by omega
        have HKM := Lib.hid hkM
        clear hkM
        by_cases heq : m = s
        · have hb : ((m : Int) != (s : Int)) = false := by simp [heq]
          have HEQ := Lib.hid heq
          clear heq
          go_wp2
          go_ret
          exact ⟨ret_int (chk_same _ _ (by rw [LB.out, LZ.out, HEQ.out]) (fun j hj => by
            rw [LB.out] at hj
            have h2 := HEQ.out
            rw [AB.out j (by omega)]; exact HE.out j (by have := HKM.out; omega))).symm, hx⟩
        · have hb : ((m : Int) != (s : Int)) = true := by simp; omega
          have HEQ := Lib.hid heq
          clear heq
          go_wp2
          all_goals
            go_ret
            exact ⟨ret_int (chk_at _ _ s (by rw [LB.out]; omega) (by rw [LZ.out]; omega) (fun j hj => by rw [AB.out j (by omega)]; exact HE.out j (by have := HKM.out; omega)) (.inr (by rw [LB.out, LZ.out]; have := HEQ.out; omega))).symm, hx⟩
end Go.Proofs.Ytgjkbkiehfpjcaa.Sm
