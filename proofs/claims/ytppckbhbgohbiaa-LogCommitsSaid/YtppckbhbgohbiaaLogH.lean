/- Logs: Commit, of both. -/
import Derived.Test.YtppckbhbgohbiaaLogG
namespace Go.Proofs.Ytppckbhbgohbiaa.Lg
open Go.RowKit Go.Proofs.Ytppckbhbgohbiaa
set_option linter.unusedVariables false

def reach (ms : List Int) (p : Int) : Nat := (ms.filter fun m => decide (p ≤ m)).length
theorem reach_le (ms : List Int) (p : Int) : reach ms p ≤ ms.length := List.length_filter_le _ _
theorem reach_snoc (ms : List Int) (p : Int) (k : Nat) (h : k < ms.length) : reach (ms.take (k + 1)) p = reach (ms.take k) p + if p ≤ at0 ms k then 1 else 0 := by
  unfold reach
  rw [List.take_succ_eq_append_getElem h, List.filter_append, List.length_append]
  have e : at0 ms k = ms[k] := by simp [at0, List.getD_eq_getElem?_getD, h]
  rw [e]
  by_cases c : p ≤ ms[k] <;> simp [c]

def ReachR (ms : List Int) (p : Int) (m : Nat) (c i : Value) : Prop := ∃ k : Nat, k ≤ m ∧ i = .int .i64 k ∧ c = .int .i64 (reach (ms.take k) p : Nat)

set_option maxRecDepth 100000 in
set_option maxHeartbeats 600000 in
theorem reach_any (q : Option Addr) (m d : Nat) (ms : List Int) (w : World) (h : RowI .i64 w q m ms) (p : Int) (B : Nat) (hB : w.cell? ⟨B, 0, none⟩ = some (.slice q m d)) :
    Calls Try.prog 30 #[.int .i64 p, .pointer (some ⟨B, 0, none⟩)] w fun e w' => e = .returned (.int .i64 (reach ms p : Nat)) ∧ w = w' := by
  have HP := Lib.hid h
  have hm := h.2.1
  clear h
  go_enter Try.func30, Try.ntmps30
  go_wp2
  go_loop [4, 9] (fun c i => ReachR ms p m c i) (fun _ i => m - (intOf i).toNat)
  case atStart => exact ⟨0, by omega, rfl, rfl⟩
  case round =>
    obtain ⟨k, hk, rfl, rfl⟩ := hrel
    have hle := reach_le (ms.take k) p
    have hl : (ms.take k).length ≤ k := List.length_take_le _ _
    by_cases hlt : k < m
    · obtain ⟨b, off, rfl, hc⟩ := HP.out.2.2 (by omega)
      have hc0 := hc k hlt
      have hlt' : (k : Int) < (m : Int) := by omega
      have hlt0 : (0 : Int) ≤ (k : Int) := by omega
      have HS := Lib.hid (reach_snoc ms p k (by rw [HP.out.1]; exact hlt))
      clear hc
      generalize reach (ms.take k) p = R at HS hle ⊢
      by_cases hge : p ≤ at0 ms k
      · have g1 : decide (p ≤ at0 ms k) = true := decide_eq_true hge
        have HG := Lib.hid hge
        clear hge
        go_wp2
        go_round
        case rel => exact ⟨k + 1, by omega, by go_num, by rw [HS.out, if_pos HG.out]; go_num⟩
        case measure => simp [intOf]; omega
      · have HG := Lib.hid hge
        have g2 : at0 ms k < p := by omega
        clear hge
        go_wp2
        go_round
        case rel => exact ⟨k + 1, by omega, by go_num, by rw [HS.out, if_neg HG.out]; go_num⟩
        case measure => simp [intOf]; omega
    · obtain rfl : k = m := by omega
      have e0 : ms.take k = ms := List.take_of_length_le (by rw [HP.out.1]; omega)
      rw [e0]
      go_wp2
      go_ret
      exact ⟨rfl, rfl⟩

set_option maxRecDepth 100000 in
set_option maxHeartbeats 600000 in
theorem rreach_any (q : Option Addr) (m d : Nat) (ms : List Int) (w : World) (h : RowI .i64 w q m ms) (p : Int) :
    Calls Try.prog 31 #[.slice q m d, .int .i64 p] w fun e w' => e = .returned (.int .i64 (reach ms p : Nat)) ∧ w = w' := by
  have HP := Lib.hid h
  have hm := h.2.1
  clear h
  go_enter Try.func31, Try.ntmps31
  go_wp2
  go_loop [5, 6] (fun c i => ReachR ms p m c i) (fun _ i => m - (intOf i).toNat)
  case atStart => exact ⟨0, by omega, rfl, rfl⟩
  case round =>
    obtain ⟨k, hk, rfl, rfl⟩ := hrel
    have hle := reach_le (ms.take k) p
    have hl : (ms.take k).length ≤ k := List.length_take_le _ _
    by_cases hlt : k < m
    · obtain ⟨b, off, rfl, hc⟩ := HP.out.2.2 (by omega)
      have hc0 := hc k hlt
      have hlt' : (k : Int) < (m : Int) := by omega
      have hlt0 : (0 : Int) ≤ (k : Int) := by omega
      have HS := Lib.hid (reach_snoc ms p k (by rw [HP.out.1]; exact hlt))
      clear hc
      generalize reach (ms.take k) p = R at HS hle ⊢
      by_cases hge : p ≤ at0 ms k
      · have g1 : decide (p ≤ at0 ms k) = true := decide_eq_true hge
        have HG := Lib.hid hge
        clear hge
        go_wp2
        go_round
        case rel => exact ⟨k + 1, by omega, by go_num, by rw [HS.out, if_pos HG.out]; go_num⟩
        case measure => simp [intOf]; omega
      · have HG := Lib.hid hge
        have g2 : at0 ms k < p := by omega
        clear hge
        go_wp2
        go_round
        case rel => exact ⟨k + 1, by omega, by go_num, by rw [HS.out, if_neg HG.out]; go_num⟩
        case measure => simp [intOf]; omega
    · obtain rfl : k = m := by omega
      have e0 : ms.take k = ms := List.take_of_length_le (by rw [HP.out.1]; omega)
      rw [e0]
      go_wp2
      go_ret
      exact ⟨rfl, rfl⟩

/-- the greatest of places up to one that may be, above what was -/
def topC (l : List Ent) (t : Int) (ms : List Int) (was : Int) : Nat → Int
  | 0 => was
  | p + 1 => if was < (p : Int) + 1 ∧ (l.getD p (0, [])).1 = t ∧ ms.length < 2 * reach ms ((p : Int) + 1) then (p : Int) + 1 else topC l t ms was p
def commitL (l : List Ent) (t : Int) (ms : List Int) (was : Int) : Int := topC l t ms was l.length
theorem topC_low (l : List Ent) (t : Int) (ms : List Int) (was : Int) : ∀ (p : Nat), (p : Int) ≤ was → topC l t ms was p = was
  | 0, _ => rfl
  | p + 1, h => by
    unfold topC
    rw [if_neg (by omega), topC_low l t ms was p (by omega)]

def CommitR (w2 : World) (l : List Ent) (t : Int) (ms : List Int) (was : Int) (n : Nat) (i : Value) (wr : World) : Prop :=
  ∃ p : Nat, p ≤ n ∧ i = .int .i64 p ∧ Hid (topC l t ms was n = topC l t ms was p) ∧ Ext w2 wr

set_option maxRecDepth 100000 in
set_option maxHeartbeats 1000000 in
theorem commit_any (p q : Option Addr) (n c m d : Nat) (l : List Ent) (ms : List Int) (w : World) (hl : LEnt.Row w p n l) (hm : RowI .i64 w q m ms) (hm1 : m ≤ 1000000) (t was : Int) :
    Calls Try.prog 19 #[.slice p n c, .int .i64 t, .slice q m d, .int .i64 was] w fun e w' => e = .returned (.int .i64 (commitL l t ms was)) ∧ Ext w w' := by
  have HL := Lib.hid hl
  have HM := Lib.hid hm
  have hn := hl.2.1
  have e0 : commitL l t ms was = topC l t ms was n := by unfold commitL; rw [hl.1]
  rw [e0]
  clear hl hm e0
  have hbox := cell_of_row (w.alloc (.cells #[.slice q m d] 23)) w.heap.size 0 _ _ _ (heap_alloc_new w _)
  have HBX := Lib.hid hbox
  clear hbox
  go_enter Try.func19, Try.ntmps19
  go_wp2
  go_loopw [10] (fun i wr => CommitR (w.alloc (.cells #[.slice q m d] 23)) l t ms was n i wr) (fun i _ => (intOf i).toNat)
  case atStart => exact ⟨n, by omega, rfl, Lib.hid rfl, Ext.refl _⟩
  case round =>
    obtain ⟨k, hk, rfl, HT, hx⟩ := hrel
    have X := Ext.trans (Ext.alloc w _) hx
    by_cases h1 : was < (k : Int)
    · by_cases h2 : 0 < k
      · obtain ⟨j, rfl⟩ : ∃ j, k = j + 1 := ⟨k - 1, by omega⟩
        have g1 : decide (was < ((j + 1 : Nat) : Int)) = true := decide_eq_true h1
        have gx := ent_get (l := l) (j := j) (by rw [HL.out.1]; omega)
        obtain ⟨b, off, p1, n1, c1, rfl, x0, x1, _⟩ := ent_at (HL.out.ext X) gx
        have hbx := hx.cell HBX.out
        have hrow := HM.out.ext X
        have HR : Hid (∀ N, Calls Try.prog 30 #[.int .i64 ((j : Int) + 1), .pointer (some ⟨w.heap.size, 0, none⟩)] (wr.drewN N) fun e w' => e = .returned (.int .i64 (reach ms ((j : Int) + 1) : Nat)) ∧ wr.drewN N = w') := Lib.hid fun N => reach_any q m d ms (wr.drewN N) hrow _ _ hbx
        have hrl := reach_le ms ((j : Int) + 1)
        have HML : Hid (ms.length = m) := Lib.hid HM.out.1
        rw [HM.out.1] at hrl
        have HZ : Hid (topC l t ms was (j + 1) = if was < (j : Int) + 1 ∧ (l.getD j (0, [])).1 = t ∧ m < 2 * reach ms ((j : Int) + 1) then (j : Int) + 1 else topC l t ms was j) := Lib.hid (by rw [← HML.out]; rfl)
        clear gx hrow
        generalize (l.getD j (0, [])).1 = T at x0 HZ
        generalize reach ms ((j : Int) + 1) = R at HR hrl HZ
        have k0 : (0 : Int) ≤ (j : Int) := by omega
        have hwr : IntKind.i64.wrap ((j : Int) + 1 - 1) = (j : Int) := by rw [IntWalk.i64_in _ (by omega)]; omega
        have hw2 : IntKind.i64.wrap (2 * (R : Int)) = 2 * (R : Int) := IntWalk.i64_in _ (by omega)
        rw [show ((j + 1 : Nat) : Int) = (j : Int) + 1 by omega] at g1 h1 ⊢
        have g2 : decide ((0 : Int) < (j : Int) + 1) = true := decide_eq_true (by omega)
        by_cases hT : T = t
        · have e1 : (T == t) = true := by simp [hT]
          by_cases hR : m < 2 * R
          · have e2 : decide ((m : Int) < 2 * (R : Int)) = true := decide_eq_true (by omega)
            have HF : Hid (topC l t ms was (j + 1) = (j : Int) + 1) := Lib.hid (by rw [HZ.out, if_pos ⟨h1, hT, hR⟩])
            clear hT
            go_wp2
            go_quiet ((go_at_call 30; exact quietA (HR.out _)))
            go_wp2
            go_ret
            exact ⟨ret_int (by rw [HT.out, HF.out]), Ext.drewN X _⟩
          · have e2 : decide ((m : Int) < 2 * (R : Int)) = false := decide_eq_false (by omega)
            have HF : Hid (topC l t ms was (j + 1) = topC l t ms was j) := Lib.hid (by rw [HZ.out, if_neg (fun h => hR h.2.2)])
            clear hT hR
            go_wp2
            go_quiet ((go_at_call 30; exact quietA (HR.out _)))
            go_wp2
            go_roundw
            case rel => exact ⟨j, by omega, rfl, Lib.hid (by rw [HT.out, HF.out]), Ext.drewN hx _⟩
            case measure => simp [intOf] <;> omega
        · have e1 : (T == t) = false := by simp [hT]
          have HF : Hid (topC l t ms was (j + 1) = topC l t ms was j) := Lib.hid (by rw [HZ.out, if_neg (fun h => hT h.2.1)])
          clear hT
          go_wp2
          go_quiet (fail)
          go_wp2
          go_roundw
          case rel => exact ⟨j, by omega, rfl, Lib.hid (by rw [HT.out, HF.out]), Ext.drewN hx _⟩
          case measure => simp [intOf] <;> omega
      · obtain rfl : k = 0 := by omega
        have g1 : decide (was < ((0 : Nat) : Int)) = true := decide_eq_true h1
        have g1' : decide (was < 0) = true := decide_eq_true h1
        go_wp2
        go_ret
        exact ⟨ret_int (by rw [HT.out]; rfl), X⟩
    · have g1 : decide (was < (k : Int)) = false := decide_eq_false h1
      go_wp2
      go_ret
      exact ⟨ret_int (by rw [HT.out, topC_low _ _ _ _ _ (by omega)]), X⟩

def RCommitR (w2 : World) (l : List Ent) (t : Int) (ms : List Int) (was : Int) (n : Nat) (o i : Value) (wr : World) : Prop :=
  ∃ p : Nat, p ≤ n ∧ i = .int .i64 ((p : Int) + 1) ∧ o = .int .i64 (topC l t ms was p) ∧ Ext w2 wr

set_option maxRecDepth 100000 in
set_option maxHeartbeats 1000000 in
theorem rcommit_any (p q : Option Addr) (n c m d : Nat) (l : List Ent) (ms : List Int) (w : World) (hl : LEnt.Row w p n l) (hm : RowI .i64 w q m ms) (hm1 : m ≤ 1000000) (hn : n ≤ 1000000) (t was : Int) :
    Calls Try.prog 20 #[.slice p n c, .int .i64 t, .slice q m d, .int .i64 was] w fun e w' => e = .returned (.int .i64 (commitL l t ms was)) ∧ Ext w w' := by
  have HL := Lib.hid hl
  have HM := Lib.hid hm
  have e0 : commitL l t ms was = topC l t ms was n := by unfold commitL; rw [hl.1]
  rw [e0]
  clear hl hm e0
  go_enter Try.func20, Try.ntmps20
  go_wp2
  go_loopw [9, 10] (fun o i wr => RCommitR w l t ms was n o i wr) (fun _ i _ => n + 1 - (intOf i).toNat)
  case atStart => exact ⟨0, by omega, rfl, rfl, Ext.refl _⟩
  case round =>
    obtain ⟨j, hj, rfl, rfl, hx⟩ := hrel
    by_cases h2 : j < n
    · have g0 : (j : Int) + 1 ≤ (n : Int) := by omega
      have gx := ent_get (l := l) (j := j) (by rw [HL.out.1]; omega)
      obtain ⟨b, off, p1, n1, c1, rfl, x0, x1, _⟩ := ent_at (HL.out.ext hx) gx
      have hrow := HM.out.ext hx
      have HR : Hid (Calls Try.prog 31 #[.slice q m d, .int .i64 ((j : Int) + 1)] wr fun e w' => e = .returned (.int .i64 (reach ms ((j : Int) + 1) : Nat)) ∧ wr = w') := Lib.hid (rreach_any q m d ms wr hrow _)
      have hrl := reach_le ms ((j : Int) + 1)
      have HML : Hid (ms.length = m) := Lib.hid HM.out.1
      rw [HM.out.1] at hrl
      have HZ : Hid (topC l t ms was (j + 1) = if was < (j : Int) + 1 ∧ (l.getD j (0, [])).1 = t ∧ m < 2 * reach ms ((j : Int) + 1) then (j : Int) + 1 else topC l t ms was j) := Lib.hid (by rw [← HML.out]; rfl)
      clear gx hrow
      generalize (l.getD j (0, [])).1 = T at x0 HZ
      generalize reach ms ((j : Int) + 1) = R at HR hrl HZ
      have k0 : (0 : Int) ≤ (j : Int) := by omega
      have hwr : IntKind.i64.wrap ((j : Int) + 1 - 1) = (j : Int) := by rw [IntWalk.i64_in _ (by omega)]; omega
      have hw2 : IntKind.i64.wrap (2 * (R : Int)) = 2 * (R : Int) := IntWalk.i64_in _ (by omega)
      by_cases h1 : was < (j : Int) + 1
      · have g1 : decide (was < (j : Int) + 1) = true := decide_eq_true h1
        by_cases hT : T = t
        · have e1 : (T == t) = true := by simp [hT]
          by_cases hR : m < 2 * R
          · have e2 : decide ((m : Int) < 2 * (R : Int)) = true := decide_eq_true (by omega)
            have HF : Hid (topC l t ms was (j + 1) = (j : Int) + 1) := Lib.hid (by rw [HZ.out, if_pos ⟨h1, hT, hR⟩])
            clear hT
            go_wp2_with (go_at_call 31; refine HR.out.mono ?_; rintro e w' ⟨rfl, rfl⟩)
            go_roundw
            case rel => exact ⟨j + 1, by omega, by go_num, by rw [HF.out], hx⟩
            case measure => simp [intOf] <;> omega
          · have e2 : decide ((m : Int) < 2 * (R : Int)) = false := decide_eq_false (by omega)
            have HF : Hid (topC l t ms was (j + 1) = topC l t ms was j) := Lib.hid (by rw [HZ.out, if_neg (fun h => hR h.2.2)])
            clear hT hR
            go_wp2_with (go_at_call 31; refine HR.out.mono ?_; rintro e w' ⟨rfl, rfl⟩)
            go_roundw
            case rel => exact ⟨j + 1, by omega, by go_num, by rw [HF.out], hx⟩
            case measure => simp [intOf] <;> omega
        · have e1 : (T == t) = false := by simp [hT]
          have HF : Hid (topC l t ms was (j + 1) = topC l t ms was j) := Lib.hid (by rw [HZ.out, if_neg (fun h => hT h.2.1)])
          clear hT
          go_wp2
          go_roundw
          case rel => exact ⟨j + 1, by omega, by go_num, by rw [HF.out], hx⟩
          case measure => simp [intOf] <;> omega
      · have g1 : decide (was < (j : Int) + 1) = false := decide_eq_false h1
        have HF : Hid (topC l t ms was (j + 1) = topC l t ms was j) := Lib.hid (by rw [HZ.out, if_neg (fun h => h1 h.1)])
        clear h1
        go_wp2
        go_roundw
        case rel => exact ⟨j + 1, by omega, by go_num, by rw [HF.out], hx⟩
        case measure => simp [intOf] <;> omega
    · obtain rfl : j = n := by omega
      have g0 : (j : Int) < (j : Int) + 1 := by omega
      go_wp2
      go_ret
      exact ⟨rfl, hx⟩
end Go.Proofs.Ytppckbhbgohbiaa.Lg
