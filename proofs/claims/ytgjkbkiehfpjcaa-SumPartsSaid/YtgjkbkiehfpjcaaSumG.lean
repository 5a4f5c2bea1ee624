/- The walk of SumOwn. -/
import Derived.Test.YtgjkbkiehfpjcaaSumF
import Derived.Test.YtgjkbkiehfpjcaaApp
import Derived.Deep.RegionHeld3
import Derived.Deep.MidRow
import Derived.ChangeKeysEq
import Derived.Laws.StructEq
namespace Go.Proofs.Ytgjkbkiehfpjcaa.Sm
open Go.RowKit Go.Proofs.Ytgjkbkiehfpjcaa Go.Proofs.Ytgjkbkiehfpjcaa.Crc
set_option linter.unusedVariables false

/-- the four bytes of a number, the lowest first -/
def ob (n i : Nat) : Nat := n / 256 ^ i % 256
def own4 (n : Nat) : List Nat := [ob n 0, ob n 1, ob n 2, ob n 3]
theorem word_step (c r : Nat) (hc : c < 256) : c ^^^ r * 2 ^ 8 = c + 256 * r := by
  have e : c + 256 * r = 2 ^ 8 * r + c := by omega
  rw [e]
  apply Nat.eq_of_testBit_eq
  intro i
  rw [Nat.testBit_two_pow_mul_add r hc, Nat.testBit_xor, Nat.testBit_mul_two_pow]
  by_cases h8 : i < 8
  · have : ¬ 8 ≤ i := by omega
    simp [h8, this]
  · have h : c.testBit i = false := Nat.testBit_lt_two_pow (Nat.lt_of_lt_of_le hc (Nat.pow_le_pow_right (n := 2) (i := 8) (by decide) (by omega)))
    have : 8 ≤ i := by omega
    simp [h8, h, this]
theorem own4_word (n : Nat) (h : n < 4294967296) : word (own4 n) = n := by
  simp only [own4, word, ob]
  rw [Nat.zero_mul, Nat.xor_zero, word_step _ _ (by omega), word_step _ _ (by omega), word_step _ _ (by omega)]
  omega
theorem own4_lt (n : Nat) : ∀ c ∈ own4 n, c < 256 := by
  intro c hc
  simp [own4, ob] at hc
  omega

theorem news_rowB' {w : World} {p : Option Addr} {n : Nat} {l : List Nat} (h : RowB w p n l) : ∀ ad, p = some ad → ∀ j u, (vals l)[j]? = some u → w.cell? (ad.add j) = some u := by
  intro ad hp j u hu
  by_cases h0 : 0 < n
  · obtain ⟨b, off, hq, _⟩ := h.cells h0
    rw [hq] at hp h
    cases hp
    exact news_rowB h h0 j u hu
  · have : l = [] := List.eq_nil_of_length_eq_zero (by rw [h.length]; omega)
    subst this
    simp [vals] at hu
theorem q4_vals (s : Nat) (h : s < 4294967296) : (#[.int .u8 ((s : Int) % 256), .int .u8 ((s : Int) / 256 % 256), .int .u8 ((s : Int) / 65536 % 256), .int .u8 ((s : Int) / 16777216)] : Array Value) = (vals (own4 s)).toArray := by
  have e3 : (s : Int) / 16777216 = ((s / 256 ^ 3 % 256 : Nat) : Int) := by omega
  have e0 : (s : Int) % 256 = ((s / 256 ^ 0 % 256 : Nat) : Int) := by omega
  have e1 : (s : Int) / 256 % 256 = ((s / 256 ^ 1 % 256 : Nat) : Int) := by omega
  have e2 : (s : Int) / 65536 % 256 = ((s / 256 ^ 2 % 256 : Nat) : Int) := by omega
  rw [e0, e1, e2, e3]; rfl
theorem row_of_block {w w' : World} {g n : Nat} {cs : Array Value} {t : TypeId} (hg : w.heap[g]? = some (.cells cs t (0, 0))) (l : List Nat) (hcs : cs = (vals l).toArray) (hn : l.length = n) (hl : ∀ c ∈ l, c < 256) (hm : n ≤ 1000000) (hx : Ext w w') : RowB w' (some ⟨g, 0, none⟩) n l := by
  refine ⟨⟨by simpa using hn, by omega, fun _ => ⟨g, 0, rfl, fun j hj => hx.cell ?_⟩⟩, hl⟩
  rw [cell_of_row _ _ _ _ _ _ hg, hcs, Nat.zero_add, at0_map, List.getElem?_toArray]
  exact vals_get l j (by omega)

theorem vals_append (a b : List Nat) : vals (a ++ b) = vals a ++ vals b := by simp [vals]
theorem vals_ints (l : List Nat) : vals l = (l.map fun x : Nat => (x : Int)).map (Value.int .u8) := by simp only [vals, List.map_map]; rfl

theorem run_equalIn_b {P : Program} {e : TypeId} (d : Nat) (he : P.underlying e = some (.int .u8)) (a b : Int) (w : World) : (Op.equalIn (d + 1) e (.int .u8 a) (.int .u8 b)).run P w = .ok (decide (a = b)) w := by
  simp [Op.equalIn, run_underlying he]
  try rfl
theorem run_eql_b4 {P : Program} {t e : TypeId} {i : TypeInfo} (hu : P.underlying t = some (.array 4 e)) (he : P.underlying e = some (.int .u8)) (hi : P.info? e = some i) (hs : i.size = 1) (hm : P.eqGuardType P.depth t = false) (a0 a1 a2 a3 b0 b1 b2 b3 : Int) (w : World) :
    (binOp .eql t (.agg #[.int .u8 a0, .int .u8 a1, .int .u8 a2, .int .u8 a3]) (.agg #[.int .u8 b0, .int .u8 b1, .int .u8 b2, .int .u8 b3])).run P w = .ok (.bool (decide (a0 = b0 ∧ a1 = b1 ∧ a2 = b2 ∧ a3 = b3))) w := by
  have hc : P.cellsOf e = 1 := by simp [Program.cellsOf, hi, hs]
  have hq : ∀ (a b : Int) (w : World), (Op.equalIn 9999 e (.int .u8 a) (.int .u8 b)).run P w = .ok (decide (a = b)) w := fun a b w => run_equalIn_b 9998 he a b w
  rw [run_eql_struct, run_equalIn_array w 9999 _ _ hu hi, hc]
  have hp : ∀ (xs : Array Value) (off : Nat) (v : Value) (w : World), xs[off]? = some v → (part e xs off).run P w = .ok v w := fun xs off v w h => run_part_plain w (by unfold Program.plainKey; rw [he]) h
  generalize 9999 = D at hq
  simp only [show List.range 4 = [0, 1, 2, 3] from rfl, Op.eqItems, Sem.run_bind]
  rw [hp _ _ (.int .u8 a0) w rfl, Result.andThen_ok, hp _ _ (.int .u8 b0) w rfl, Result.andThen_ok, hq, Result.andThen_ok]
  by_cases h0 : a0 = b0
  rotate_left
  · simp [h0]
  rw [decide_eq_true h0, Bool.not_true, if_neg Bool.false_ne_true]
  simp only [Sem.run_bind]
  rw [hp _ _ (.int .u8 a1) w rfl, Result.andThen_ok, hp _ _ (.int .u8 b1) w rfl, Result.andThen_ok, hq, Result.andThen_ok]
  by_cases h1 : a1 = b1
  rotate_left
  · simp [h1]
  rw [decide_eq_true h1, Bool.not_true, if_neg Bool.false_ne_true]
  simp only [Sem.run_bind]
  rw [hp _ _ (.int .u8 a2) w rfl, Result.andThen_ok, hp _ _ (.int .u8 b2) w rfl, Result.andThen_ok, hq, Result.andThen_ok]
  by_cases h2 : a2 = b2
  rotate_left
  · simp [h2]
  rw [decide_eq_true h2, Bool.not_true, if_neg Bool.false_ne_true]
  simp only [Sem.run_bind]
  rw [hp _ _ (.int .u8 a3) w rfl, Result.andThen_ok, hp _ _ (.int .u8 b3) w rfl, Result.andThen_ok, hq, Result.andThen_ok]
  by_cases h3 : a3 = b3
  rotate_left
  · simp [h3]
  rw [decide_eq_true h3, Bool.not_true, if_neg Bool.false_ne_true]
  simp [h0, h1, h2, h3]
theorem four_of_row {w : World} {g : Nat} {a b c d : Nat} (h : RowB w (some ⟨g, 0, none⟩) 4 [a, b, c, d]) : w.cell? ⟨g, 0, none⟩ = some (.int .u8 (a : Int)) ∧ w.cell? ⟨g, 1, none⟩ = some (.int .u8 (b : Int)) ∧ w.cell? ⟨g, 2, none⟩ = some (.int .u8 (c : Int)) ∧ w.cell? ⟨g, 3, none⟩ = some (.int .u8 (d : Int)) :=
  ⟨news_rowB h (by decide) 0 _ rfl, news_rowB h (by decide) 1 _ rfl, news_rowB h (by decide) 2 _ rfl, news_rowB h (by decide) 3 _ rfl⟩
theorem eq_own (s : Nat) (f : Nat → Nat) (e : Bool) (he : e = decide (((ob s 0 : Nat) : Int) = (f 0 : Nat) ∧ ((ob s 1 : Nat) : Int) = (f 1 : Nat) ∧ ((ob s 2 : Nat) : Int) = (f 2 : Nat) ∧ ((ob s 3 : Nat) : Int) = (f 3 : Nat))) : e = decide (own4 s = [f 0, f 1, f 2, f 3]) := by
  subst he
  refine decide_eq_decide.2 ?_
  simp only [own4, List.cons.injEq, and_true]
  omega

set_option maxRecDepth 100000 in
set_option maxHeartbeats 8000000 in
theorem own_walk {p : Option Addr} {n c : Nat} {l : List Nat} {f : Nat → Nat} {w : World} (hp : RowB w p n l) (hc : n ≤ c) (pl : Pl p c) (hf : ∀ j, f j < 256) :
    Calls Try.prog 8 #[.slice p n c, .agg #[.int .u8 (f 0 : Nat), .int .u8 (f 1 : Nat), .int .u8 (f 2 : Nat), .int .u8 (f 3 : Nat)]] w fun e w' => e = .returned (.bool true) ∧ Ext w w' := by
  obtain ⟨i0, hi0, hz0, hz1, hz2⟩ := info_parts info_u8
  have HP := Lib.hid hp
  have HF := Lib.hid hf
  have b1 := hp.le
  have HPL := Lib.hid (pl.none hc)
  clear hp hf pl
  by_cases h400 : n ≤ 400
  · go_enter Try.func8, Try.ntmps8
    go_wp2_with fail
    refine (head_any _).mono ?_
    rintro e w1 ⟨rfl, hx0⟩
    have hx : Ext w w1 := Ext.trans (Ext.alloc _ _) hx0
    have CB := Lib.hid (fun (w' : World) (h : Ext w1 w') => (hx0.trans h))
    have HR := Lib.hid (HP.out.ext hx)
    have HL := Lib.hid HP.out.length
    go_wp2_with fail
    refine (of_any _ _ _ _ _ HR.out).mono ?_
    rintro e w2 ⟨rfl, hx2⟩
    have hs := sum_lt l HP.out.2
    have HS := Lib.hid hs
    have hs1 : (0 : Int) ≤ ((sum l : Nat) : Int) := by omega
    have hs2 : ((sum l : Nat) : Int) ≤ 4294967295 := by omega
    clear hs
    generalize hsm : sum l = s at hs1 hs2 HS ⊢
    have HSM := Lib.hid hsm
    clear hsm
    go_wp2
    have hq3 := heap_alloc_new w2 (.cells #[.int .u8 ((s : Int) % 256), .int .u8 ((s : Int) / 256 % 256), .int .u8 ((s : Int) / 65536 % 256), .int .u8 ((s : Int) / 16777216)] 31)
    have hX3 : Ext w2 (w2.alloc (.cells #[.int .u8 ((s : Int) % 256), .int .u8 ((s : Int) / 256 % 256), .int .u8 ((s : Int) / 65536 % 256), .int .u8 ((s : Int) / 16777216)] 31)) := Ext.alloc _ _
    generalize w2.alloc (.cells #[.int .u8 ((s : Int) % 256), .int .u8 ((s : Int) / 256 % 256), .int .u8 ((s : Int) / 65536 % 256), .int .u8 ((s : Int) / 16777216)] 31) = W3 at hq3 hX3 ⊢
    have HQ3 := Lib.hid hq3
    clear hq3
    have R4 : Hid (∀ w', Ext W3 w' → RowB w' (some ⟨w2.heap.size, 0, none⟩) 4 (own4 s)) := Lib.hid fun w' h => row_of_block HQ3.out (own4 s) (q4_vals s HS.out) rfl (own4_lt s) (by decide) h
    have hxw3 : Ext w1 W3 := Ext.trans hx2 hX3
    have RL : Hid (∀ w', Ext W3 w' → RowB w' p n l) := Lib.hid fun w' h => HR.out.ext (Ext.trans hxw3 h)
    have RF : Hid (∀ w', Ext W3 w' → RowB w' (some ⟨w.heap.size, 0, none⟩) 4 [f 0, f 1, f 2, f 3]) := Lib.hid fun w' h => rowB_lit [f 0, f 1, f 2, f 3] (t := 31) rfl rfl rfl (by intro x hx; simp at hx; rcases hx with rfl | rfl | rfl | rfl <;> exact HF.out _) (Ext.trans hx0 (Ext.trans hxw3 h)) (by decide)
    go_region_law (first | (refine step_append_src (by rfl) (.tmp 35) (.tmp 36) 22 (by rfl) W3.heap.size 5 i0 (.int .u8 0) 1 1 Try.underlying22 hi0 hz0 hz1 hz2 rfl (by decide) _ _ _ (by rfl) ((World.ownsRow_made (e := 5) (size := 1) W3 #[] 0 (Nat.le_refl _) (by decide) rfl)).drew p n c (vals l) (by rfl) (by rw [vals_length, HL.out]; omega) HPL.out (news_rowB' (RL.out _ (Ext.drew (Ext.alloc _ _)))) (vals_one _) (by unfold maxLen; omega) (by omega) (by simp) ?_; intro v5 w5 hownA hgA; have XA : Ext W3 w5 := below_grown (Ext.drew (Ext.alloc _ _)) (Nat.le_refl _) hgA (((World.ownsRow_made (e := 5) (size := 1) W3 #[] 0 (Nat.le_refl _) (by decide) rfl)).drew)) | (refine step_append_src (by rfl) (.tmp 37) (.tmp 38) 22 (by rfl) W3.heap.size 5 i0 (.int .u8 0) 1 1 Try.underlying22 hi0 hz0 hz1 hz2 rfl (by decide) _ _ _ (by rfl) hownA (some ⟨w2.heap.size, 0, none⟩) 4 4 (vals (own4 s)) (by rfl) rfl (fun h => by cases h) (news_rowB' (R4.out _ XA)) (vals_one _) (by unfold maxLen; omega) (by omega) (Nat.le_trans (by simp) XA.size) ?_; intro v6 w6 hownB hgB))
    all_goals
      have X6 : Ext W3 w6 := below_grown XA (Nat.le_refl _) hgB hownA
      obtain ⟨pb, cb, rfl, hrb⟩ := rowI_of_own (k := .u8) (zs := (l ++ own4 s).map fun x : Nat => (x : Int)) (by have := hownB; rw [List.nil_append, Nat.zero_add] at this; rw [← vals_append, vals_ints] at this; exact this) (by omega)
      have RX : Hid (RowB w6 pb (n + 4) (l ++ own4 s)) := Lib.hid ⟨hrb, by
        intro x hx
        rcases List.mem_append.1 hx with h | h
        · exact HP.out.2 x h
        · exact own4_lt s x h⟩
      clear hgA hgB hownA hrb
      go_wp2
      go_region_law (first | (refine step_append_src (by rfl) (.tmp 40) (.tmp 41) 22 (by rfl) w6.heap.size 5 i0 (.int .u8 0) 1 1 Try.underlying22 hi0 hz0 hz1 hz2 rfl (by decide) _ _ _ (by rfl) ((World.ownsRow_made (e := 5) (size := 1) w6 #[] 0 (Nat.le_refl _) (by decide) rfl)).drew p n c (vals l) (by rfl) (by rw [vals_length, HL.out]; omega) HPL.out (news_rowB' (RL.out _ (Ext.trans X6 (Ext.drew (Ext.alloc _ _))))) (vals_one _) (by unfold maxLen; omega) (by omega) (by simp) ?_; intro v8 w8 hownC hgC; have XC : Ext w6 w8 := below_grown (Ext.drew (Ext.alloc _ _)) (Nat.le_refl _) hgC (((World.ownsRow_made (e := 5) (size := 1) w6 #[] 0 (Nat.le_refl _) (by decide) rfl)).drew)) | (refine step_append_src (by rfl) (.tmp 42) (.tmp 43) 22 (by rfl) w6.heap.size 5 i0 (.int .u8 0) 1 1 Try.underlying22 hi0 hz0 hz1 hz2 rfl (by decide) _ _ _ (by rfl) hownC (some ⟨w.heap.size, 0, none⟩) 4 4 (vals [f 0, f 1, f 2, f 3]) (by rfl) rfl (fun h => by cases h) (news_rowB' (RF.out _ (Ext.trans X6 XC))) (vals_one _) (by unfold maxLen; omega) (by omega) (Nat.le_trans (by simp) XC.size) ?_; intro v9 w9 hownD hgD))
      all_goals
        have X9 : Ext w6 w9 := below_grown XC (Nat.le_refl _) hgD hownC
        obtain ⟨pd, cd, rfl, hrd⟩ := rowI_of_own (k := .u8) (zs := (l ++ [f 0, f 1, f 2, f 3]).map fun x : Nat => (x : Int)) (by have := hownD; rw [List.nil_append, Nat.zero_add] at this; rw [← vals_append, vals_ints] at this; exact this) (by omega)
        have RY : Hid (RowB w9 pd (n + 4) (l ++ [f 0, f 1, f 2, f 3])) := Lib.hid ⟨hrd, by
          intro x hx
          rcases List.mem_append.1 hx with h | h
          · exact HP.out.2 x h
          · simp at h; rcases h with rfl | rfl | rfl | rfl <;> exact HF.out _⟩
        have RX9 : Hid (RowB w9 pb (n + 4) (l ++ own4 s)) := Lib.hid (RX.out.ext X9)
        clear hgC hgD hownC hownD hownB hrd RX
        have RNG : Hid (∀ w', Ext w9 w' → (w'.cell? ⟨w2.heap.size, 0, none⟩ = some (.int .u8 ((ob s 0 : Nat) : Int)) ∧ w'.cell? ⟨w2.heap.size, 1, none⟩ = some (.int .u8 ((ob s 1 : Nat) : Int)) ∧ w'.cell? ⟨w2.heap.size, 2, none⟩ = some (.int .u8 ((ob s 2 : Nat) : Int)) ∧ w'.cell? ⟨w2.heap.size, 3, none⟩ = some (.int .u8 ((ob s 3 : Nat) : Int))) ∧ (w'.cell? ⟨w.heap.size, 0, none⟩ = some (.int .u8 ((f 0 : Nat) : Int)) ∧ w'.cell? ⟨w.heap.size, 1, none⟩ = some (.int .u8 ((f 1 : Nat) : Int)) ∧ w'.cell? ⟨w.heap.size, 2, none⟩ = some (.int .u8 ((f 2 : Nat) : Int)) ∧ w'.cell? ⟨w.heap.size, 3, none⟩ = some (.int .u8 ((f 3 : Nat) : Int)))) := Lib.hid fun w' h => ⟨four_of_row (R4.out _ (Ext.trans X6 (Ext.trans X9 h))), four_of_row (RF.out _ (Ext.trans X6 (Ext.trans X9 h)))⟩
        have SX : Hid (sum (l ++ own4 s) = 1214729159) := Lib.hid (sum_own l (own4 s) rfl (by rw [own4_word _ HS.out]; exact HSM.out.symm))
        have SY : Hid (sum (l ++ [f 0, f 1, f 2, f 3]) = 1214729159 ↔ own4 s = [f 0, f 1, f 2, f 3]) := Lib.hid (sum_other l _ (own4 s) HP.out.2 (by intro x hx; simp at hx; rcases hx with rfl | rfl | rfl | rfl <;> exact HF.out _) (own4_lt s) rfl rfl (by rw [own4_word _ HS.out]; exact HSM.out.symm))
        have EQ : ∃ e : Bool, e = decide (own4 s = [f 0, f 1, f 2, f 3]) ∧ ∀ w, (binOp .eql 31 (.agg #[(.int .u8 ((ob s 0 : Nat) : Int)), (.int .u8 ((ob s 1 : Nat) : Int)), (.int .u8 ((ob s 2 : Nat) : Int)), (.int .u8 ((ob s 3 : Nat) : Int))]) (.agg #[(.int .u8 ((f 0 : Nat) : Int)), (.int .u8 ((f 1 : Nat) : Int)), (.int .u8 ((f 2 : Nat) : Int)), (.int .u8 ((f 3 : Nat) : Int))])).run Try.prog w = .ok (.bool e) w := ⟨_, eq_own s f _ rfl, fun w => run_eql_b4 Try.underlying31 Try.underlying5 hi0 hz1 (by kernel_rfl) _ _ _ _ _ _ _ _ w⟩
        obtain ⟨ee, hee, eq⟩ := EQ
        have HEE := Lib.hid hee
        clear hee
        generalize Value.int .u8 ((ob s 0 : Nat) : Int) = U0 at RNG eq
        generalize Value.int .u8 ((ob s 1 : Nat) : Int) = U1 at RNG eq
        generalize Value.int .u8 ((ob s 2 : Nat) : Int) = U2 at RNG eq
        generalize Value.int .u8 ((ob s 3 : Nat) : Int) = U3 at RNG eq
        generalize Value.int .u8 ((f 0 : Nat) : Int) = U4 at RNG eq
        generalize Value.int .u8 ((f 1 : Nat) : Int) = U5 at RNG eq
        generalize Value.int .u8 ((f 2 : Nat) : Int) = U6 at RNG eq
        generalize Value.int .u8 ((f 3 : Nat) : Int) = U7 at RNG eq
        have hxx : Ext w9 w9.drew := Ext.drew (Ext.refl _)
        go_wp2
        go_region_held3 (fun w' => (w'.cell? ⟨w2.heap.size, 0, none⟩ = some U0 ∧ w'.cell? ⟨w2.heap.size, 1, none⟩ = some U1 ∧ w'.cell? ⟨w2.heap.size, 2, none⟩ = some U2 ∧ w'.cell? ⟨w2.heap.size, 3, none⟩ = some U3) ∧ (w'.cell? ⟨w.heap.size, 0, none⟩ = some U4 ∧ w'.cell? ⟨w.heap.size, 1, none⟩ = some U5 ∧ w'.cell? ⟨w.heap.size, 2, none⟩ = some U6 ∧ w'.cell? ⟨w.heap.size, 3, none⟩ = some U7)) (exact RNG.out _ hxx) ((go_at_call 10; (first | (with_reducible refine (of_any _ _ _ _ _ (RX9.out.ext hxx)).mono ?_; rintro e w10 ⟨rfl, hx2⟩; rw [SX.out]) | (with_reducible refine (of_any _ _ _ _ _ (RY.out.ext hxx)).mono ?_; rintro e w10 ⟨rfl, hx2⟩)); replace hxx := Ext.trans hxx hx2; clear hx2))
        go_wp2
        go_ret
        refine ⟨ret_bool ?_, Ext.trans hx (Ext.trans hxw3 (Ext.trans X6 (Ext.trans X9 hxx)))⟩
        have sy := SY.out
        rw [HEE.out]
        by_cases hq : own4 s = [f 0, f 1, f 2, f 3]
        · have := sy.2 hq
          rw [this]; simp [hq]
        · have : ¬ sum (l ++ [f 0, f 1, f 2, f 3]) = 1214729159 := fun h => hq (sy.1 h)
          have h2 : ¬ ((sum (l ++ [f 0, f 1, f 2, f 3]) : Nat) : Int) = 1214729159 := by omega
          simp [hq, h2]
  · have h4 : 400 < n := by omega
    go_enter Try.func8, Try.ntmps8
    go_wp2_with fail
    refine (head_any _).mono ?_
    rintro e w1 ⟨rfl, hx⟩
    go_wp2
    go_ret
    exact ⟨rfl, Ext.trans (Ext.alloc _ _) hx⟩
theorem own_law {p : Option Addr} {n c : Nat} {l : List Nat} {z : List Int} {w : World} (hp : RowB w p n l) (hc : n ≤ c) (pl : Pl p c) (hl : z.length = 4) (hw : ∀ x ∈ z, (Lit.int .u8 x).wf = true) :
    Calls Try.prog 8 #[.slice p n c, .agg (z.map (Value.int .u8)).toArray] w fun e w' => e = .returned (.bool true) ∧ Ext w w' := by
  obtain ⟨f, hf, hz, _⟩ := four_bytes hl hw
  rw [hz]
  exact own_walk hp hc pl hf
end Go.Proofs.Ytgjkbkiehfpjcaa.Sm
