/- Contracts of sum's table and of Of. -/
import Derived.Test.YtgjkbkiehfpjcaaOwn
import Derived.Test.YtgjkbkiehfpjcaaCrc
namespace Go.Proofs.Ytgjkbkiehfpjcaa.Sm
open Go.RowKit Go.Proofs.Ytgjkbkiehfpjcaa Go.Proofs.Ytgjkbkiehfpjcaa.Crc
set_option linter.unusedVariables false

theorem odd_step {s : Nat} (hs : s < 4294967296) (ho : s % 2 = 1) : bits .xor .u32 ((s : Int) / 2) 2197175160 = ((tb s : Nat) : Int) := by
  have h := u32_xor_nat (s / 2) 2197175160 (by omega) (by omega)
  simp only [tb, if_pos ho]
  simpa using h
theorem even_step {s : Nat} (ho : ¬ s % 2 = 1) : (s : Int) / 2 = ((tb s : Nat) : Int) := by simp only [tb, if_neg ho]; simp
theorem low_bit {s : Nat} (hs : s < 4294967296) : bits .and .u32 (s : Int) 1 = ((s % 2 : Nat) : Int) := by
  have h := u32_and_nat s 1 hs (by omega)
  rw [Nat.and_one_is_mod] at h
  simpa using h

def HalfR (h : Nat) (s i : Value) : Prop := ∃ k : Nat, i = .int .i64 k ∧ k ≤ 4 ∧ s = .int .u32 (tbn k h)

set_option maxHeartbeats 1000000 in
theorem fill_any (h : Nat) (hh : h < 16) (B : Nat) (v : Value) (w : World) (hc : w.cell? ⟨B, h, none⟩ = some v) (hf : w.frozen? ⟨B, h, none⟩ = false) :
    Calls Try.prog 21 #[.int .i64 h, .pointer (some ⟨B, 0, none⟩)] w fun e w' => e = .returned (.tuple #[]) ∧ w.setCell ⟨B, h, none⟩ (.int .u32 (tbn 4 h)) = w' := by
  have hh' : (h : Int) < 16 := by omega
  go_enter Try.func21, Try.ntmps21
  go_wp2
  go_loop [3, 4, 7] (fun s _ i => HalfR h s i) (fun _ _ i => 4 - (intOf i).toNat)
  case atStart => exact ⟨0, rfl, by omega, rfl⟩
  case round =>
    obtain ⟨k, rfl, hk, rfl⟩ := hrel
    have hb : tbn k h < 4294967296 := tbn_lt k (by omega)
    have e1 := low_bit hb
    by_cases hlt : k < 4
    · by_cases ho : tbn k h % 2 = 1
      · have e2 := odd_step hb ho
        have e3 : (bits .and .u32 (tbn k h : Int) 1 == 1) = true := by rw [e1, ho]; rfl
        have E2 := Lib.hid e2
        clear e1 e2
        go_wp2
        go_round
        case rel => exact ⟨k + 1, by go_num, by omega, by rw [E2.out]; rfl⟩
        case measure => simp [intOf]; omega
      · have e2 := even_step ho
        have e3 : (bits .and .u32 (tbn k h : Int) 1 == 1) = false := by
          rw [e1, show tbn k h % 2 = 0 by omega]; rfl
        have E2 := Lib.hid e2
        clear e1 e2
        go_wp2
        go_round
        case rel => exact ⟨k + 1, by go_num, by omega, by rw [E2.out]; rfl⟩
        case measure => simp [intOf]; omega
    · obtain rfl : k = 4 := by omega
      clear e1
      go_wp2
      go_end0
      exact ⟨rfl, rfl⟩

/-- the table when k of its places are filled -/
def tabk (k : Nat) : Array Value := ((List.range 16).map fun j => Value.int .u32 (if j < k then ((tbn 4 j : Nat) : Int) else 0)).toArray
theorem tabk_size (k : Nat) : (tabk k).size = 16 := by simp [tabk]
theorem tabk_get (k j : Nat) (h : j < 16) : (tabk k)[j]? = some (.int .u32 (if j < k then ((tbn 4 j : Nat) : Int) else 0)) := by simp [tabk, h]
theorem tabk_set (k : Nat) (h : k < 16) : (tabk k).setIfInBounds k (.int .u32 ((tbn 4 k : Nat) : Int)) = tabk (k + 1) := by
  apply Array.ext_getElem?
  intro i
  rw [Array.getElem?_setIfInBounds]
  by_cases hi : i < 16
  · rw [tabk_get _ _ hi, tabk_get _ _ hi, tabk_size]
    by_cases e : k = i
    · subst e; simp [h]
    · rw [if_neg e]
      congr 2
      by_cases c : i < k
      · rw [if_pos c, if_pos (by omega)]
      · rw [if_neg c, if_neg (by omega)]
  · rw [if_neg (by omega), Array.getElem?_eq_none (by rw [tabk_size]; omega), Array.getElem?_eq_none (by rw [tabk_size]; omega)]
theorem tabk_zero : tabk 0 = #[.int .u32 0, .int .u32 0, .int .u32 0, .int .u32 0, .int .u32 0, .int .u32 0, .int .u32 0, .int .u32 0, .int .u32 0, .int .u32 0, .int .u32 0, .int .u32 0, .int .u32 0, .int .u32 0, .int .u32 0, .int .u32 0] := by rfl
theorem tabk_one (k : Nat) : (tabk k).all (·.oneCell') = true := by
  refine Array.all_eq_true_iff_forall_mem.2 fun v hv => ?_
  simp only [tabk, List.mem_toArray, List.mem_map] at hv
  obtain ⟨j, _, rfl⟩ := hv
  rfl

/-- what the loop over the halves holds -/
def HalvesR (w : World) (i : Value) (wr : World) : Prop :=
  ∃ k : Nat, i = .int .i64 k ∧ k ≤ 16 ∧ Hid (wr.heap[w.heap.size + 1]? = some (.cells (tabk k) 39 (0, 0))) ∧ Hid (wr.heap[w.heap.size]? = some (.cells (tabk 0) 39 (0, 0))) ∧ Ext w wr

theorem enter21 : ∀ args w, (callFunc 21 args).run Try.prog w = .ok (.enter 21 args) w := enters_of Try.func21 (by kernel_rfl) rfl
theorem info_tab : (Try.prog.info? 39).map (·.size) = some 16 := by kernel_rfl

set_option maxRecDepth 100000 in
set_option maxHeartbeats 4000000 in
theorem halves_any (w : World) :
    Calls Try.prog 17 #[] w fun e w' => e = .returned (.agg (tabk 16)) ∧ Ext w w' := by
  have hmf := makeFunc_run
  go_enter Try.func17, Try.ntmps17
  go_wp2
  go_loopw [3, 5] (fun _ i wr => HalvesR w i wr) (fun _ i _ => 16 - (intOf i).toNat)
  case atStart =>
    refine ⟨0, rfl, by omega, Lib.hid ?_, Lib.hid ?_, (Ext.alloc _ _).trans (Ext.alloc _ _)⟩
    · rw [tabk_zero]; exact heap_alloc2_new _ _ _
    · rw [tabk_zero, Below.heap_alloc _ _ _ (by simp)]; exact heap_alloc_new _ _
  case round =>
    obtain ⟨k, rfl, hk, HT, HZ, hx⟩ := hrel
    by_cases hlt : k < 16
    · have hlt' : (k : Int) < 16 := by omega
      go_wp2_with fail
      refine (fill_any k hlt (w.heap.size + 1) _ _ (cell_of_row _ _ _ _ _ _ HT.out |>.trans (tabk_get _ _ hlt)) (by simp only [World.frozen?, HT.out]; simp)).mono ?_
      rintro e w1 ⟨rfl, rfl⟩
      go_wp2
      go_roundw
      case rel => exact ⟨k + 1, by go_num, by omega, Lib.hid (by rw [heap_setCell_same _ _ _ _ _ _ HT.out, tabk_set k hlt]), Lib.hid (by rw [Go.heap_setCell_other _ _ _ _ (by simp)]; exact HZ.out), hx.setCell (by simp) _⟩
      case measure => simp [intOf]; omega
    · obtain rfl : k = 16 := by omega
      go_wp2_with (first | (refine wpList_load_row rfl 39 (.tmp 1) rfl (w.heap.size + 1) rfl 39 (tabk 16) (0, 0) _ HT.out Try.underlying39 rfl (by rw [info_tab, tabk_size]) ?_) | (refine wpList_store_row rfl 39 (.tmp 0) (.tmp 12) rfl w.heap.size (tabk 16) rfl rfl 39 (tabk 0) HZ.out (by rw [info_tab, tabk_size]) (by rw [tabk_size, tabk_size]) (tabk_one 16) ?_))
      refine bodyPost_ret (v := .agg (tabk 16)) (results_cell_row rfl _ _ w.heap.size 39 (tabk 16) (0, 0) _ rfl (setRow_heap _ _ _ _ _ _ HZ.out) Try.underlying39 rfl (by rw [info_tab, tabk_size])) rfl ⟨rfl, ?_⟩
      exact ext_setRow hx (Nat.le_refl _) _

theorem low_half {s : Nat} (hs : s < 4294967296) : bits .and .u32 (s : Int) 15 = ((s % 16 : Nat) : Int) := by
  have h := u32_and_nat s 15 hs (by omega)
  rw [show (15 : Nat) = 2 ^ 4 - 1 from rfl, Nat.and_two_pow_sub_one_eq_mod] at h
  simpa using h
theorem half_step {s t : Nat} (hs : s < 4294967296) (ht : t = tbn 4 (s % 16)) : bits .xor .u32 ((s : Int) / 16) (t : Int) = ((tbn 4 s : Nat) : Int) := by
  have hl : t < 4294967296 := by rw [ht]; exact tbn_lt 4 (by omega)
  have h := u32_xor_nat (s / 16) t (by omega) hl
  rw [half_table s, ← ht]
  simpa using h
theorem byte_step {s c : Nat} (hs : s < 4294967296) (hc : c < 256) : bits .xor .u32 (s : Int) (c : Int) = ((s ^^^ c : Nat) : Int) := u32_xor_nat s c hs (by omega)

theorem last_turn {s : Nat} (hs : s < 4294967296) : bits .xor .u32 IntKind.u32.max (s : Int) = ((s ^^^ 4294967295 : Nat) : Int) := by
  have h := u32_xor_nat 4294967295 s (by omega) hs
  rw [Nat.xor_comm s]
  rw [← h]
  rfl

/-- a state behind some bytes, in a slot -/
def OfR (l : List Nat) (n : Nat) (s i : Value) : Prop := ∃ k : Nat, i = .int .i64 k ∧ k ≤ n ∧ s = .int .u32 (st (l.take k) : Nat)

set_option maxRecDepth 100000 in
set_option maxHeartbeats 4000000 in
theorem of_any (p : Option Addr) (n c : Nat) (l : List Nat) (w : World) (hp : RowB w p n l) :
    Calls Try.prog 10 #[.slice p n c] w fun e w' => e = .returned (.int .i64 (sum l : Nat)) ∧ Ext w w' := by
  have HP := Lib.hid hp
  have hn := hp.le
  clear hp
  have htz := tabk_zero
  go_enter Try.func10, Try.ntmps10
  go_wp2_with fail
  refine (halves_any _).mono ?_
  rintro e w1 ⟨rfl, hx⟩
  have hz := heap_alloc_new w1 (.cells (tabk 0) 39)
  have HZ := Lib.hid hz
  clear hz
  rw [tabk_zero] at HZ
  clear htz
  go_wp2_with (refine wpList_store_row rfl 39 (.tmp 3) (.tmp 7) rfl w1.heap.size (tabk 16) rfl rfl 39 _ HZ.out (by rw [info_tab, tabk_size]) (by rw [tabk_size]; rfl) (tabk_one 16) ?_)
  have hz := setRow_heap _ w1.heap.size _ (tabk 16) _ _ HZ.out
  have hX : Ext w ((w1.alloc (.cells #[.int .u32 0, .int .u32 0, .int .u32 0, .int .u32 0, .int .u32 0, .int .u32 0, .int .u32 0, .int .u32 0, .int .u32 0, .int .u32 0, .int .u32 0, .int .u32 0, .int .u32 0, .int .u32 0, .int .u32 0, .int .u32 0] 39)).setRow w1.heap.size (tabk 16)) := ext_setRow (Ext.trans hx (Ext.alloc _ _)) hx.size _
  generalize (w1.alloc (.cells #[.int .u32 0, .int .u32 0, .int .u32 0, .int .u32 0, .int .u32 0, .int .u32 0, .int .u32 0, .int .u32 0, .int .u32 0, .int .u32 0, .int .u32 0, .int .u32 0, .int .u32 0, .int .u32 0, .int .u32 0, .int .u32 0] 39)).setRow w1.heap.size (tabk 16) = W at hz hX ⊢
  have HT : Hid (∀ j, j < 16 → W.cell? ⟨w1.heap.size, j, none⟩ = some (.int .u32 ((tbn 4 j : Nat) : Int))) := Lib.hid fun j hj => (cell_of_row _ _ _ _ _ _ hz).trans ((tabk_get 16 j hj).trans (by rw [if_pos hj]))
  clear hz HZ
  go_loop [4, 6, 10] (fun s _ i => OfR l n s i) (fun _ _ i => n - (intOf i).toNat)
  case atStart => exact ⟨0, rfl, by omega, rfl⟩
  case round =>
    obtain ⟨k, rfl, hk, rfl⟩ := hrel
    have hs := st_lt (l.take k) (fun c hc => HP.out.2 c (List.mem_of_mem_take hc))
    by_cases hlt : k < n
    · have hlt' : (k : Int) < (n : Int) := by omega
      obtain ⟨b, off, rfl, hc⟩ := HP.out.cells (by omega)
      have cx := hX.cell (hc k hlt)
      have hb := byte_lt HP.out.2 k
      clear hc
      have hst : st (l.take (k + 1)) = bs (st (l.take k)) (l.getD k 0) := by rw [take_succ_getD l k (by rw [HP.out.length]; exact hlt), st_snoc]
      have HST := Lib.hid hst
      clear hst
      generalize st (l.take k) = s0 at hs HST ⊢
      generalize l.getD k 0 = c0 at cx hb HST
      have e1 := byte_step hs hb
      have h1 : s0 ^^^ c0 < 4294967296 := Nat.xor_lt_two_pow (n := 32) hs (by omega)
      generalize hs1 : s0 ^^^ c0 = s1 at e1 h1
      have e2 := low_half h1
      have c2 := HT.out (s1 % 16) (by omega)
      have e3 := half_step (t := tbn 4 (s1 % 16)) h1 rfl
      have h2 : tbn 4 s1 < 4294967296 := tbn_lt 4 h1
      generalize hi1 : s1 % 16 = i1 at e2 c2 e3
      have l1 : i1 < 16 := by omega
      have l1' : (i1 : Int) < 16 := by omega
      generalize tbn 4 i1 = t1 at c2 e3
      generalize hs2 : tbn 4 s1 = s2 at e3 h2
      have e4 := low_half h2
      have c3 := HT.out (s2 % 16) (by omega)
      have e5 := half_step (t := tbn 4 (s2 % 16)) h2 rfl
      generalize hi2 : s2 % 16 = i2 at e4 c3 e5
      have l2 : i2 < 16 := by omega
      have l2' : (i2 : Int) < 16 := by omega
      generalize tbn 4 i2 = t2 at c3 e5
      have hfin : tbn 4 s2 = bs s0 c0 := by
        unfold bs
        rw [hs1, ← hs2, ← tbn_add]
      have HF := Lib.hid hfin
      clear hfin hs1 hs2 hi1 hi2
      generalize tbn 4 s2 = s3 at e5 HF
      go_wp2
      go_round
      case rel => exact ⟨k + 1, by go_num, by omega, by rw [HST.out, HF.out]⟩
      case measure => simp [intOf]; omega
    · obtain rfl : k = n := by omega
      have hl : l.take k = l := List.take_of_length_le (by rw [HP.out.length]; exact Nat.le_refl _)
      have HL := Lib.hid hl
      clear hl
      have e9 := last_turn hs
      rw [HL.out] at e9
      have e8 : ((st l ^^^ 4294967295 : Nat) : Int) ≤ 4294967295 := by have := Nat.xor_lt_two_pow (n := 32) (y := 4294967295) (st_lt l HP.out.2) (by omega); omega
      have hsg : IntKind.u32.signed = false := rfl
      rw [HL.out]
      go_wp2
      go_ret
      exact ⟨ret_int rfl, hX⟩
end Go.Proofs.Ytgjkbkiehfpjcaa.Sm
