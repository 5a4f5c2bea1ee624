/- The document's own answer: turned, Of. -/
import Derived.Test.YtgjkbkiehfpjcaaSumF
import Derived.Test.YtgjkbkiehfpjcaaApp
namespace Go.Proofs.Ytgjkbkiehfpjcaa.Sm
open Go.RowKit Go.Proofs.Ytgjkbkiehfpjcaa Go.Proofs.Ytgjkbkiehfpjcaa.Crc
set_option linter.unusedVariables false

theorem rturned_any (a b : Nat) (ha : a < 4294967296) (hb : b < 4294967296) (w : World) :
    Calls Try.prog 18 #[.int .i64 a, .int .i64 b] w fun e w' => e = .returned (.int .i64 (a ^^^ b : Nat)) ∧ w = w' := by
  have e1 := i64_xor_nat a b ha hb
  go_enter Try.func18, Try.ntmps18
  go_wp2
  go_ret
  exact ⟨ret_int rfl, rfl⟩

def ROfR (l : List Nat) (n : Nat) (s i : Value) : Prop := ∃ k : Nat, i = .int .i64 k ∧ k ≤ n ∧ s = .int .i64 (st (l.take k) : Nat)
def RBitR (s0 : Nat) (s k : Value) : Prop := ∃ j : Nat, k = .int .i64 j ∧ j ≤ 8 ∧ s = .int .i64 (tbn j s0 : Nat)

set_option maxRecDepth 100000 in
set_option maxHeartbeats 4000000 in
theorem rof_any (p : Option Addr) (n c : Nat) (l : List Nat) (w : World) (hp : RowB w p n l) :
    Calls Try.prog 11 #[.slice p n c] w fun e w' => e = .returned (.int .i64 (sum l : Nat)) ∧ w = w' := by
  have HP := Lib.hid hp
  have hn := hp.le
  clear hp
  go_enter Try.func11, Try.ntmps11
  go_wp2
  go_loop [3, 4, 5, 6] (fun s i _ _ => ROfR l n s i) (fun _ i _ _ => n - (intOf i).toNat)
  case atStart => exact ⟨0, rfl, by omega, rfl⟩
  case round =>
    obtain ⟨k, rfl, hk, rfl⟩ := hrel
    have hs := st_lt (l.take k) (fun c hc => HP.out.2 c (List.mem_of_mem_take hc))
    by_cases hlt : k < n
    · have hlt' : (k : Int) < (n : Int) := by omega
      obtain ⟨b, off, rfl, hc⟩ := HP.out.cells (by omega)
      have cx := hc k hlt
      have hb := byte_lt HP.out.2 k
      clear hc
      have hst : st (l.take (k + 1)) = bs (st (l.take k)) (l.getD k 0) := by rw [take_succ_getD l k (by rw [HP.out.length]; exact hlt), st_snoc]
      have HST := Lib.hid hst
      clear hst
      generalize st (l.take k) = s0 at hs HST ⊢
      generalize l.getD k 0 = c0 at cx hb HST
      have hb' : (c0 : Int) < 256 := by omega
      have h1 : s0 ^^^ c0 < 4294967296 := Nat.xor_lt_two_pow (n := 32) hs (by omega)
      go_wp2_with fail
      refine (rturned_any s0 c0 hs (by omega) _).mono ?_
      rintro e w' ⟨rfl, rfl⟩
      have HFI : Hid (bs s0 c0 = tbn 8 (s0 ^^^ c0)) := Lib.hid rfl
      generalize s0 ^^^ c0 = s1 at h1 HFI ⊢
      go_wp2
      go_loop [3, 5, 6] (fun s j _ => RBitR s1 s j) (fun _ j _ => 8 - (intOf j).toNat)
      case atStart => exact ⟨0, rfl, by omega, rfl⟩
      case round =>
        obtain ⟨j, rfl, hj, rfl⟩ := hrel
        have hb := tbn_lt j h1
        by_cases hlt8 : j < 8
        · have hlt8' : (j : Int) < 8 := by omega
          have HT : Hid (tbn (j + 1) s1 = tb (tbn j s1)) := Lib.hid (by rw [Nat.add_comm, tbn_add]; rfl)
          generalize tbn j s1 = t at hb HT ⊢
          by_cases ho : t % 2 = 1
          · have e3 : ((t : Int) % 2 == 1) = true := by have : (t : Int) % 2 = 1 := by omega
                                                        rw [this]; rfl
            have e2 := i64_xor_nat (t / 2) 2197175160 (by omega) (by omega)
            have E2 := Lib.hid e2
            have HO := Lib.hid ho
            clear e2 ho
            go_wp2
            go_round
            case rel => exact ⟨j + 1, by go_num, by omega, by rw [HT.out, tb, if_pos HO.out, ← E2.out]; simp⟩
            case measure => simp [intOf]; omega
          · have e3 : ((t : Int) % 2 == 1) = false := by have : (t : Int) % 2 = 0 := by omega
                                                         rw [this]; rfl
            have HO := Lib.hid ho
            clear ho
            go_wp2
            go_round
            case rel => exact ⟨j + 1, by go_num, by omega, by rw [HT.out, tb, if_neg HO.out]; simp⟩
            case measure => simp [intOf]; omega
        · obtain rfl : j = 8 := by omega
          go_wp2
          go_round
          case rel => exact ⟨k + 1, by go_num, by omega, by rw [HST.out, HFI.out]⟩
          case measure => simp [intOf]; omega
    · obtain rfl : k = n := by omega
      have hl : l.take k = l := List.take_of_length_le (by rw [HP.out.length]; exact Nat.le_refl _)
      rw [hl] at hs ⊢
      have hfin : st l ^^^ 4294967295 = sum l := rfl
      have HF := Lib.hid hfin
      clear hl hfin
      go_wp2_with fail
      refine (rturned_any _ 4294967295 hs (by omega) _).mono ?_
      rintro e w' ⟨rfl, rfl⟩
      rw [HF.out]
      go_wp2
      go_ret
      exact ⟨ret_int rfl, rfl⟩
end Go.Proofs.Ytgjkbkiehfpjcaa.Sm
