/- slices.Grow of nil, slices.Concat, at one element type. -/
import Derived.Test.YtifbmkcfgpfefaaRep
import Derived.Test.YtifbmkcfgpfefaaWiA
import Derived.Lib.AppendZerosOnto
import Derived.IntWalk
namespace Go.Proofs.Ytifbmkcfgpfefaa.Wi
open Go.RowKit Go.Proofs.Ytifbmkcfgpfefaa
set_option linter.unusedVariables false

theorem info_elem : (Try.prog.info? 26).map (fun i => (i.zero, i.size, i.bytes)) = some (some (.agg #[.int .i64 0, .int .i64 0, .int .i64 0, .slice none 0 0, .slice none 0 0]), (LMg).size, 72) := by kernel_rfl

set_option maxRecDepth 100000 in
set_option maxHeartbeats 1000000 in
theorem grow_any (n : Nat) (w : World) (hn : n ≤ 1000000) :
    Calls Try.prog 35 #[.slice none 0 0, .int .i64 n] w fun e w' => (∃ v, e = .returned v ∧ (LMg).Own w' w.heap.size 26 v []) ∧ Ext w w' := by
  obtain ⟨i0, hi0, hz0, hz1, hz2⟩ := info_parts info_elem
  by_cases h0 : n = 0
  · subst h0
    go_enter Try.func35, Try.ntmps35
    go_wp2
    go_ret
    exact ⟨⟨_, rfl, Lay.Own.nil _ _ _ _⟩, Ext.refl _⟩
  · have hb : 0 < n := by omega
    have hb' : (0 : Int) < (n : Int) := by omega
    have hpos : 0 < i0.size := by rw [hz1]; exact Lay.pos _
    have hrz : ∀ ty, (Builtin.append_ #[22, 3] ty #[.slice none 0 0, .int .i64 (n : Int)]).run Try.prog w =
        .ok (.slice (some ⟨w.heap.size, 0, none⟩) n (grownCap w n 0 26)) (w.drew.alloc (.cells (#[] ++ Builtin.zeroCells (.agg #[.int .i64 0, .int .i64 0, .int .i64 0, .slice none 0 0, .slice none 0 0] : Value).cells n ++ Builtin.zeroCells (.agg #[.int .i64 0, .int .i64 0, .int .i64 0, .slice none 0 0, .slice none 0 0] : Value).cells (grownCap w n 0 26 - n)) 26)) := fun ty => by
      have h := Lib.run_append_grow_zeros (P := Try.prog) w 22 3 ty 26 i0 (.agg #[.int .i64 0, .int .i64 0, .int .i64 0, .slice none 0 0, .slice none 0 0]) .i64 .i64 Try.underlying22 Try.underlying3 hi0 hz0 none 0 0 [] (run_firstCells_none w.drew i0.size 0 0 0) n hb hpos (by omega) (by omega) (by rw [hz2]; omega) (growslice_fits (by omega) (by rw [hz2]; omega))
      simpa using h
    have hG := grownCap_ge w n 0 26
    have hG2 := grownCap_le_maxLen w n 0 26 (by unfold maxLen; omega)
    obtain ⟨G, hGG⟩ : ∃ G, G = grownCap w n 0 26 := ⟨_, rfl⟩
    rw [← hGG] at hrz hG hG2
    obtain ⟨CC, hCC⟩ : ∃ CC, CC = (#[] ++ Builtin.zeroCells (.agg #[.int .i64 0, .int .i64 0, .int .i64 0, .slice none 0 0, .slice none 0 0] : Value).cells n ++ Builtin.zeroCells (.agg #[.int .i64 0, .int .i64 0, .int .i64 0, .slice none 0 0, .slice none 0 0] : Value).cells (G - n)) := ⟨_, rfl⟩
    rw [← hCC] at hrz
    have HCC : Hid (CC.size = G * (LMg).size) := Lib.hid (by
      rw [hCC]
      simp only [Array.size_append, Builtin.zeroCells, Array.size_map, Array.size_range]
      show 0 + n * (LMg).size + (G - n) * (LMg).size = _
      rw [Nat.zero_add, ← Nat.add_mul]; congr 1; omega)
    have hG63 : G ≤ 9223372036854775807 := by unfold maxLen at hG2; omega
    have HM := Lib.hid hG2
    clear hGG hCC h0 hG2 hpos
    go_enter Try.func35, Try.ntmps35
    go_wp2_with (at_builtin; refine Lib.wpList_append_run _ rfl _ _ _ _ rfl _ _ rfl rfl _ _ (hrz _) ?_)
    go_ret
    exact ⟨⟨_, rfl, Lay.Own.made (E := LMg) w.drew CC G _ _ (Nat.le_refl _) HM.out HCC.out⟩, (Ext.refl _).drew.trans (Ext.alloc _ _)⟩

def lens (ls : List (List Mg)) : Nat := (ls.map List.length).sum
theorem lens_take_succ (ls : List (List Mg)) (j : Nat) (x : List Mg) (h : ls[j]? = some x) : lens (ls.take (j + 1)) = lens (ls.take j) + x.length := by
  unfold lens
  rw [List.take_add_one, h]
  simp
theorem lens_take_le (ls : List (List Mg)) (j : Nat) : lens (ls.take j) ≤ lens ls := by
  have e : lens ls = lens (ls.take j) + lens (ls.drop j) := by
    conv => lhs; rw [← List.take_append_drop j ls]
    unfold lens; rw [List.map_append, List.sum_append]
  omega
theorem flat_take_succ (ls : List (List Mg)) (j : Nat) (x : List Mg) (h : ls[j]? = some x) : (ls.take (j + 1)).flatten = (ls.take j).flatten ++ x := by
  rw [List.take_add_one, h]
  simp
theorem lens_flat (ls : List (List Mg)) : ls.flatten.length = lens ls := by unfold lens; rw [List.length_flatten]
theorem get_of {β : Type} (l : List β) (j : Nat) (h : j < l.length) : ∃ x, l[j]? = some x := ⟨_, List.getElem?_eq_getElem h⟩

def CatR1 (ls : List (List Mg)) (n : Nat) (s i : Value) : Prop := ∃ j : Nat, j ≤ n ∧ i = .int .i64 j ∧ s = .int .i64 (lens (ls.take j) : Nat)
def CatR2 (w : World) (ls : List (List Mg)) (n : Nat) (v i : Value) (wr : World) : Prop := ∃ j : Nat, j ≤ n ∧ i = .int .i64 j ∧ (LMg).Own wr w.heap.size 26 v (ls.take j).flatten ∧ Ext w wr

set_option maxRecDepth 100000 in
set_option maxHeartbeats 2000000 in
theorem concat_any (p : Option Addr) (n c : Nat) (ls : List (List Mg)) (w : World) (hl : (LMg).slice.Row w p n ls) (hm : lens ls ≤ 1000000) :
    Calls Try.prog 27 #[.slice p n c] w fun e w' => (∃ v, e = .returned v ∧ (LMg).Own w' w.heap.size 26 v ls.flatten) ∧ Ext w w' := by
  obtain ⟨i0, hi0, hz0, hz1, hz2⟩ := info_parts info_elem
  have HP := Lib.hid hl
  have hn := hl.2.1
  clear hl
  go_enter Try.func27, Try.ntmps27
  go_wp2
  go_loop [3, 11] (fun s i => CatR1 ls n s i) (fun _ i => n - (intOf i).toNat)
  case atStart => exact ⟨0, by omega, rfl, rfl⟩
  case round =>
    obtain ⟨j, hj, rfl, rfl⟩ := hrel
    by_cases hlt : j < n
    · obtain ⟨x, hx⟩ := get_of ls j (by rw [HP.out.1]; exact hlt)
      obtain ⟨b, off, q, m, d, rfl, c0, rx, _⟩ := Lay.sls_at HP.out hx
      have hs := lens_take_succ ls j x hx
      rw [rx.1] at hs
      have HS := Lib.hid hs
      have hle := lens_take_le ls (j + 1)
      rw [hs] at hle
      have hlt' : (j : Int) < (n : Int) := by omega
      have hlt0 : (0 : Int) ≤ (j : Int) := by omega
      clear rx hx hs
      obtain ⟨A, hA⟩ : ∃ A, lens (ls.take j) = A := ⟨_, rfl⟩
      rw [hA] at HS hle ⊢
      have g1 : ((A : Int) + (m : Int) < 0) = False := eq_false (by omega)
      clear hA
      go_wp2
      go_round
      case rel => exact ⟨j + 1, by omega, by go_num, by rw [HS.out]; go_num⟩
      case measure => simp [intOf]; omega
    · obtain rfl : j = n := by omega
      have e0 : ls.take j = ls := List.take_of_length_le (by rw [HP.out.1]; omega)
      rw [e0]
      clear e0
      go_wp2_with fail
      refine (grow_any _ _ hm).mono ?_
      rintro e w1 ⟨⟨v, rfl, hown⟩, hx1⟩
      have HO := Lib.hid hown
      clear hown
      go_wp2
      go_loopw [6, 27] (fun v i wr => CatR2 w ls j v i wr) (fun _ i _ => j - (intOf i).toNat)
      case atStart => exact ⟨0, by omega, rfl, HO.out, hx1⟩
      case round =>
        obtain ⟨t, ht, rfl, hown, hx⟩ := hrel
        have HO2 := Lib.hid hown
        clear hown HO
        by_cases hlt2 : t < j
        · obtain ⟨x, hgx⟩ := get_of ls t (by rw [HP.out.1]; exact hlt2)
          obtain ⟨b, off, q, m, d, rfl, c0, rx, hmd, hd, hpl⟩ := Lay.sls_at HP.out hgx
          have cx := hx.cell c0
          have hs := lens_take_succ ls t x hgx
          have hf := flat_take_succ ls t x hgx
          have hle := lens_take_le ls (t + 1)
          rw [hs] at hle
          have HF := Lib.hid hf
          have HRX := Lib.hid rx
          have HPL := Lib.hid hpl
          have hlt' : (t : Int) < (j : Int) := by omega
          have hlt0 : (0 : Int) ≤ (t : Int) := by omega
          have hln : Hid ((ls.take t).flatten.length + m ≤ 1000000) := Lib.hid (by rw [lens_flat, ← rx.1]; omega)
          clear hgx rx hs hf hle hpl c0
          go_wp2_with (at_builtin; refine Lay.wpList_append (E := LMg) rfl (.tmp 31) (.tmp 32) 22 rfl w.heap.size 26 i0 (.agg #[.int .i64 0, .int .i64 0, .int .i64 0, .slice none 0 0, .slice none 0 0]) 72 Try.underlying22 hi0 hz0 hz1 hz2 rfl _ (ls.take t).flatten rfl HO2.out q m d x rfl HPL.out hmd (HRX.out.keep hx fun k hk => (HO2.out.lt k hk).1) (by have := hln.out; unfold maxLen; omega) (by have := hln.out; omega) hx.size ?_; intro v2 w2 hown2 hg2)
          have X := HO2.out.below hx (Nat.le_refl _) hg2
          rw [← HF.out] at hown2
          have HO3 := Lib.hid hown2
          clear hown2 hg2 HO2
          go_wp2
          go_roundw
          case rel => exact ⟨t + 1, by omega, by go_num, HO3.out, X⟩
          case measure => simp [intOf]; omega
        · obtain rfl : t = j := by omega
          go_wp2
          go_ret
          have e0 : ls.take t = ls := List.take_of_length_le (by rw [HP.out.1]; omega)
          have hO := HO2.out
          rw [e0] at hO
          exact ⟨⟨_, rfl, hO⟩, hx⟩
end Go.Proofs.Ytifbmkcfgpfefaa.Wi
