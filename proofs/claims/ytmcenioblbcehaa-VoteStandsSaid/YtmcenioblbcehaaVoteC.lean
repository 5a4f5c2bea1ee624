/- Votes: rows of numbers: Ints, Has, Index, Contains; who wins. -/
import Derived.Test.YtmcenioblbcehaaVoteB
import Derived.Deep.QuietTactic
namespace Go.Proofs.Ytmcenioblbcehaa.Lg
open Go.RowKit Go.Proofs.Ytmcenioblbcehaa
set_option linter.unusedVariables false

theorem ints_eq {xs ys : List Int} (h : xs.length = ys.length) (h2 : ∀ j, j < xs.length → at0 xs j = at0 ys j) : xs = ys := by
  apply List.ext_getElem h
  intro j hj hj2
  have := h2 j hj
  simpa [at0, List.getD_eq_getElem?_getD, hj, hj2] using this
def IntsR (w : World) (xs ys : List Int) (n : Nat) (i : Value) (wr : World) : Prop :=
  ∃ k : Nat, i = .int .i64 k ∧ k ≤ n ∧ Hid (∀ j, j < k → at0 xs j = at0 ys j) ∧ Ext w wr

set_option maxRecDepth 100000 in
set_option maxHeartbeats 1000000 in
theorem rints_any (p q : Option Addr) (n c m d : Nat) (xs ys : List Int) (w : World) (hp : RowI .i64 w p n xs) (hq : RowI .i64 w q m ys) :
    Calls Try.prog 27 #[.slice p n c, .slice q m d] w fun e w' => e = .returned (.bool (decide (xs = ys))) ∧ Ext w w' := by
  have HP := Lib.hid hp
  have HQ := Lib.hid hq
  have hn := hp.2.1
  have hm := hq.2.1
  clear hp hq
  by_cases hnm : n = m
  · subst hnm
    have hb : ((n : Int) != (n : Int)) = false := by simp
    go_enter Try.func27, Try.ntmps27
    go_wp2
    go_loopw [5] (fun i wr => IntsR w xs ys n i wr) (fun i _ => n - (intOf i).toNat)
    case atStart => exact ⟨0, rfl, by omega, Lib.hid (by intro j hj; omega), Ext.refl _⟩
    case round =>
      obtain ⟨k, rfl, hk, HE, hx⟩ := hrel
      by_cases hlt : k < n
      · obtain ⟨b, off, rfl, hc⟩ := HP.out.2.2 (by omega)
        obtain ⟨b2, off2, rfl, hc2⟩ := HQ.out.2.2 (by omega)
        have hlt' : (k : Int) < (n : Int) := by omega
        have hlt0 : (0 : Int) ≤ (k : Int) := by omega
        have cx := hx.cell (hc k hlt)
        have cy := hx.cell (hc2 k hlt)
        clear hc hc2
        by_cases he : at0 xs k = at0 ys k
        · have hb : (at0 xs k != at0 ys k) = false := by simp [he]
          have HE1 := Lib.hid he
          clear he
          go_wp2
          go_quiet (fail)
          go_wp2
          go_roundw
          case rel => exact ⟨k + 1, by go_num, by omega, Lib.hid (fun j hj => by
            by_cases e : j = k
            · subst e; exact HE1.out
            · exact HE.out j (by omega)), Ext.drewN hx _⟩
          case measure => simp [intOf]; omega
        · have hb : (at0 xs k != at0 ys k) = true := by simp [he]
          have HE1 := Lib.hid he
          clear he
          go_wp2
          go_quiet (fail)
          go_wp2
          go_ret
          exact ⟨ret_bool (decide_eq_false (fun h => HE1.out (by rw [h]))).symm, Ext.drewN hx _⟩
      · obtain rfl : k = n := by omega
        go_wp2
        go_ret
        exact ⟨ret_bool (decide_eq_true (ints_eq (by rw [HP.out.1, HQ.out.1]) (fun j hj => HE.out j (by rw [HP.out.1] at hj; exact hj)))).symm, hx⟩
  · have hb : ((n : Int) != (m : Int)) = true := by simp; omega
    go_enter Try.func27, Try.ntmps27
    go_wp2
    go_ret
    exact ⟨ret_bool (decide_eq_false (fun h => hnm (by rw [← HP.out.1, ← HQ.out.1, h]))).symm, Ext.refl _⟩

theorem mem_at0 {xs : List Int} {x : Int} : x ∈ xs ↔ ∃ j, j < xs.length ∧ at0 xs j = x := by
  constructor
  · intro h
    obtain ⟨j, hj, rfl⟩ := List.mem_iff_getElem.1 h
    exact ⟨j, hj, by simp [at0, List.getD_eq_getElem?_getD, hj]⟩
  · rintro ⟨j, hj, rfl⟩
    rw [show at0 xs j = xs[j] by simp [at0, List.getD_eq_getElem?_getD, hj]]
    exact List.getElem_mem hj
def HasR (xs : List Int) (x : Int) (n : Nat) (i : Value) : Prop := ∃ k : Nat, i = .int .i64 k ∧ k ≤ n ∧ Hid (∀ j, j < k → at0 xs j ≠ x)

set_option maxRecDepth 100000 in
set_option maxHeartbeats 1000000 in
theorem has_any (p : Option Addr) (n c : Nat) (xs : List Int) (x : Int) (w : World) (hp : RowI .i64 w p n xs) :
    Calls Try.prog 18 #[.slice p n c, .int .i64 x] w fun e w' => e = .returned (.bool (decide (x ∈ xs))) ∧ w = w' := by
  have HP := Lib.hid hp
  have hn := hp.2.1
  clear hp
  go_enter Try.func18, Try.ntmps18
  go_wp2
  go_loop [5] (fun i => HasR xs x n i) (fun i => n - (intOf i).toNat)
  case atStart => exact ⟨0, rfl, by omega, Lib.hid (by intro j hj; omega)⟩
  case round =>
    obtain ⟨k, rfl, hk, HE⟩ := hrel
    by_cases hlt : k < n
    · obtain ⟨b, off, rfl, hc⟩ := HP.out.2.2 (by omega)
      have hlt' : (k : Int) < (n : Int) := by omega
      have hlt0 : (0 : Int) ≤ (k : Int) := by omega
      have cx := hc k hlt
      clear hc
      by_cases he : at0 xs k = x
      · have hb : (at0 xs k == x) = true := by simp [he]
        have HE1 := Lib.hid he
        clear he
        go_wp2
        go_ret
        exact ⟨ret_bool (decide_eq_true (mem_at0.2 ⟨k, by rw [HP.out.1]; exact hlt, HE1.out⟩)).symm, rfl⟩
      · have hb : (at0 xs k == x) = false := by simp [he]
        have HE1 := Lib.hid he
        clear he
        go_wp2
        go_round
        case rel => exact ⟨k + 1, by go_num, by omega, Lib.hid (fun j hj => by
          by_cases e : j = k
          · subst e; exact HE1.out
          · exact HE.out j (by omega))⟩
        case measure => simp [intOf]; omega
    · obtain rfl : k = n := by omega
      go_wp2
      go_ret
      exact ⟨ret_bool (decide_eq_false (fun h => by
        obtain ⟨j, hj, e⟩ := mem_at0.1 h
        exact HE.out j (by rw [HP.out.1] at hj; exact hj) e)).symm, rfl⟩

/-- the first place, or -1 -/
def IdxP (xs : List Int) (x r : Int) : Prop := (x ∈ xs → 0 ≤ r) ∧ (¬ x ∈ xs → r < 0)
def RetIdx (xs : List Int) (x : Int) (w : World) (e : Ending) (w' : World) : Prop := (∃ r, e = .returned (.int .i64 r) ∧ Hid (IdxP xs x r)) ∧ w = w'

set_option maxRecDepth 100000 in
set_option maxHeartbeats 1000000 in
theorem index_any (p : Option Addr) (n c : Nat) (xs : List Int) (x : Int) (w : World) (hp : RowI .i64 w p n xs) :
    Calls Try.prog 36 #[.slice p n c, .int .i64 x] w fun e w' => RetIdx xs x w e w' := by
  have HP := Lib.hid hp
  have hn := hp.2.1
  clear hp
  go_enter Try.func36, Try.ntmps36
  go_wp2
  go_loop [8] (fun i => HasR xs x n i) (fun i => n - (intOf i).toNat)
  case atStart => exact ⟨0, rfl, by omega, Lib.hid (by intro j hj; omega)⟩
  case round =>
    obtain ⟨k, rfl, hk, HE⟩ := hrel
    by_cases hlt : k < n
    · obtain ⟨b, off, rfl, hc⟩ := HP.out.2.2 (by omega)
      have hlt' : (k : Int) < (n : Int) := by omega
      have hlt0 : (0 : Int) ≤ (k : Int) := by omega
      have cx := hc k hlt
      clear hc
      by_cases he : at0 xs k = x
      · have hb : (x == at0 xs k) = true := by simp [he]
        have HE1 := Lib.hid he
        clear he
        go_wp2
        go_ret
        exact ⟨⟨_, rfl, Lib.hid ⟨fun _ => by omega, fun h => absurd (mem_at0.2 ⟨k, by rw [HP.out.1]; exact hlt, HE1.out⟩) h⟩⟩, rfl⟩
      · have hb : (x == at0 xs k) = false := by simp; exact fun h => he h.symm
        have HE1 := Lib.hid he
        clear he
        go_wp2
        go_round
        case rel => exact ⟨k + 1, by go_num, by omega, Lib.hid (fun j hj => by
          by_cases e : j = k
          · subst e; exact HE1.out
          · exact HE.out j (by omega))⟩
        case measure => simp [intOf]; omega
    · obtain rfl : k = n := by omega
      go_wp2
      go_ret
      exact ⟨⟨_, rfl, Lib.hid ⟨fun h => by
        obtain ⟨j, hj, e⟩ := mem_at0.1 h
        exact absurd e (HE.out j (by rw [HP.out.1] at hj; exact hj)), fun _ => by omega⟩⟩, rfl⟩

set_option maxHeartbeats 1000000 in
theorem contains_any (p : Option Addr) (n c : Nat) (xs : List Int) (x : Int) (w : World) (hp : RowI .i64 w p n xs) :
    Calls Try.prog 30 #[.slice p n c, .int .i64 x] w fun e w' => e = .returned (.bool (decide (x ∈ xs))) ∧ w = w' := by
  have HC := Lib.hid (index_any p n c xs x w hp)
  clear hp
  go_enter Try.func30, Try.ntmps30
  go_wp2_with fail
  refine HC.out.mono ?_
  rintro e w' ⟨⟨r, rfl, HI⟩, rfl⟩
  by_cases h : 0 ≤ r
  · have h' : decide (0 ≤ r) = true := decide_eq_true h
    go_wp2
    go_ret
    exact ⟨ret_bool (decide_eq_true (Classical.byContradiction fun hn => by have := HI.out.2 hn; omega)).symm, rfl⟩
  · have h' : decide (0 ≤ r) = false := decide_eq_false h
    go_wp2
    go_ret
    exact ⟨ret_bool (decide_eq_false (fun hm => by have := HI.out.1 hm; omega)).symm, rfl⟩

def wonF (votes : List Int) (b : Value) : Value := b
set_option maxHeartbeats 1000000 in
theorem wonf_any (p : Option Addr) (n c B : Nat) (xs : List Int) (x : Int) (w : World) (hp : RowI .i64 w p n xs) (hB : w.cell? ⟨B, 0, none⟩ = some (.slice p n c)) :
    Calls Try.prog 29 #[.int .i64 x, .pointer (some ⟨B, 0, none⟩)] w fun e w' => e = .returned (.bool (decide (x ∈ xs))) ∧ w = w' := by
  have HC := Lib.hid (contains_any p n c xs x w hp)
  clear hp
  go_enter Try.func29, Try.ntmps29
  go_wp2_with fail
  refine HC.out.mono ?_
  rintro e w' ⟨rfl, rfl⟩
  go_wp2
  go_ret
  exact ⟨rfl, rfl⟩

/-- how many of the peers voted -/
def hits (votes peers : List Int) : Nat := (peers.filter fun p => decide (p ∈ votes)).length
theorem hits_le (votes peers : List Int) : hits votes peers ≤ peers.length := List.length_filter_le _ _
theorem hits_snoc (votes peers : List Int) (k : Nat) (h : k < peers.length) : hits votes (peers.take (k + 1)) = hits votes (peers.take k) + if at0 peers k ∈ votes then 1 else 0 := by
  unfold hits
  rw [List.take_succ_eq_append_getElem h, List.filter_append, List.length_append]
  have e : at0 peers k = peers[k] := by simp [at0, List.getD_eq_getElem?_getD, h]
  rw [e]
  by_cases c : peers[k] ∈ votes <;> simp [c]
def wonB (votes peers : List Int) : Bool := decide (peers.length < 2 * hits votes peers)
def CountR (votes peers : List Int) (m : Nat) (c i : Value) : Prop := ∃ k : Nat, k ≤ m ∧ i = .int .i64 k ∧ c = .int .i64 (hits votes (peers.take k) : Nat)

set_option maxRecDepth 100000 in
set_option maxHeartbeats 1000000 in
theorem count_any (p q : Option Addr) (n c m d B : Nat) (votes peers : List Int) (w : World) (hp : RowI .i64 w p n votes) (hq : RowI .i64 w q m peers) (hB : w.cell? ⟨B, 0, none⟩ = some (.slice p n c)) :
    Calls Try.prog 28 #[.slice q m d, .func (.func 29) #[] #[.pointer (some ⟨B, 0, none⟩)]] w fun e w' => e = .returned (.int .i64 (hits votes peers : Nat)) ∧ w = w' := by
  have HQ := Lib.hid hq
  have hm := hq.2.1
  have HC := Lib.hid (fun x => wonf_any p n c B votes x w hp hB)
  clear hp hq hB
  go_enter Try.func28, Try.ntmps28
  go_wp2
  go_loop [5, 10] (fun c i => CountR votes peers m c i) (fun _ i => m - (intOf i).toNat)
  case atStart => exact ⟨0, by omega, rfl, rfl⟩
  case round =>
    obtain ⟨k, hk, rfl, rfl⟩ := hrel
    have hle := hits_le votes (peers.take k)
    have hl : (peers.take k).length ≤ k := List.length_take_le _ _
    by_cases hlt : k < m
    · obtain ⟨b, off, rfl, hc⟩ := HQ.out.2.2 (by omega)
      have hc0 := hc k hlt
      have hlt' : (k : Int) < (m : Int) := by omega
      have hlt0 : (0 : Int) ≤ (k : Int) := by omega
      have HS := Lib.hid (hits_snoc votes peers k (by rw [HQ.out.1]; exact hlt))
      clear hc
      generalize hits votes (peers.take k) = R at HS hle ⊢
      obtain ⟨B2, hB2⟩ : ∃ B2, decide (at0 peers k ∈ votes) = B2 := ⟨_, rfl⟩
      have HB2 := Lib.hid hB2
      clear hB2
      go_wp2_with fail
      refine (HC.out _).mono ?_
      rintro e w' ⟨rfl, rfl⟩
      rw [HB2.out]
      cases B2
      · go_wp2
        go_round
        case rel => exact ⟨k + 1, by omega, by go_num, by rw [HS.out, if_neg (of_decide_eq_false HB2.out)]; go_num⟩
        case measure => simp [intOf]; omega
      · go_wp2
        go_round
        case rel => exact ⟨k + 1, by omega, by go_num, by rw [HS.out, if_pos (of_decide_eq_true HB2.out)]; go_num⟩
        case measure => simp [intOf]; omega
    · obtain rfl : k = m := by omega
      have e0 : peers.take k = peers := List.take_of_length_le (by rw [HQ.out.1]; omega)
      rw [e0]
      go_wp2
      go_ret
      exact ⟨rfl, rfl⟩

set_option maxRecDepth 100000 in
set_option maxHeartbeats 1000000 in
theorem won_any (p q : Option Addr) (n c m d : Nat) (votes peers : List Int) (w : World) (hp : RowI .i64 w p n votes) (hq : RowI .i64 w q m peers) (hm : m ≤ 1000000) :
    Calls Try.prog 16 #[.slice p n c, .slice q m d] w fun e w' => e = .returned (.bool (wonB votes peers)) ∧ Ext w w' := by
  have HC := Lib.hid (count_any p q n c m d w.heap.size votes peers (w.alloc (.cells #[.slice p n c] 22)) (hp.ext (Ext.alloc _ _)) (hq.ext (Ext.alloc _ _)) (cell_of_row _ _ 0 _ _ _ (heap_alloc_new w _)))
  have hle := hits_le votes peers
  have HL : Hid (peers.length = m) := hq.1
  have HW : Hid (wonB votes peers = decide ((m : Int) < 2 * (hits votes peers : Int))) := Lib.hid (by unfold wonB; rw [HL.out]; congr 1; apply propext; omega)
  rw [HL.out] at hle
  rw [HW.out]
  clear hp hq HW HL
  generalize hits votes peers = R at HC hle ⊢
  go_enter Try.func16, Try.ntmps16
  go_wp2_with fail
  refine HC.out.mono ?_
  rintro e w' ⟨rfl, rfl⟩
  go_wp2
  go_ret
  exact ⟨rfl, Ext.alloc _ _⟩

def RWonR (w : World) (votes peers : List Int) (m : Nat) (c i : Value) (wr : World) : Prop := ∃ k : Nat, k ≤ m ∧ i = .int .i64 k ∧ c = .int .i64 (2 * (hits votes (peers.take k) : Int) - k) ∧ Ext w wr

set_option maxRecDepth 100000 in
set_option maxHeartbeats 1000000 in
theorem rwon_any (p q : Option Addr) (n c m d : Nat) (votes peers : List Int) (w : World) (hp : RowI .i64 w p n votes) (hq : RowI .i64 w q m peers) (hm : m ≤ 1000000) :
    Calls Try.prog 17 #[.slice p n c, .slice q m d] w fun e w' => e = .returned (.bool (wonB votes peers)) ∧ Ext w w' := by
  have HP := Lib.hid hp
  have HQ := Lib.hid hq
  clear hp hq
  go_enter Try.func17, Try.ntmps17
  go_wp2
  go_loopw [5, 6] (fun c i wr => RWonR w votes peers m c i wr) (fun _ i _ => m - (intOf i).toNat)
  case atStart => exact ⟨0, by omega, rfl, rfl, Ext.refl _⟩
  case round =>
    obtain ⟨k, hk, rfl, rfl, hx⟩ := hrel
    have hle := hits_le votes (peers.take k)
    have hl : (peers.take k).length ≤ k := List.length_take_le _ _
    by_cases hlt : k < m
    · obtain ⟨b, off, rfl, hc⟩ := HQ.out.2.2 (by omega)
      have hc0 := hx.cell (hc k hlt)
      have hlt' : (k : Int) < (m : Int) := by omega
      have hlt0 : (0 : Int) ≤ (k : Int) := by omega
      have HS := Lib.hid (hits_snoc votes peers k (by rw [HQ.out.1]; exact hlt))
      clear hc
      generalize hits votes (peers.take k) = R at HS hle ⊢
      obtain ⟨B2, hB2⟩ : ∃ B2, decide (at0 peers k ∈ votes) = B2 := ⟨_, rfl⟩
      have HB2 := Lib.hid hB2
      clear hB2
      go_wp2_with fail
      refine (has_any _ _ _ _ _ _ (HP.out.ext hx)).mono ?_
      rintro e w' ⟨rfl, rfl⟩
      rw [HB2.out]
      cases B2
      · go_wp2
        go_roundw
        case rel => exact ⟨k + 1, by omega, by go_num, by rw [HS.out, if_neg (of_decide_eq_false HB2.out)]; congr 1; omega, hx⟩
        case measure => simp [intOf]; omega
      · go_wp2
        go_roundw
        case rel => exact ⟨k + 1, by omega, by go_num, by rw [HS.out, if_pos (of_decide_eq_true HB2.out)]; congr 1; omega, hx⟩
        case measure => simp [intOf]; omega
    · obtain rfl : k = m := by omega
      have e0 : peers.take k = peers := List.take_of_length_le (by rw [HQ.out.1]; omega)
      rw [e0]
      go_wp2
      go_ret
      exact ⟨ret_bool (by unfold wonB; rw [HQ.out.1]; congr 1; apply propext; omega), hx⟩
end Go.Proofs.Ytmcenioblbcehaa.Lg
