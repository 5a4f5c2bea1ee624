/- The walk of SumBursts. -/
import Derived.Test.YtgjkbkiehfpjcaaSumE
import Derived.Deep.RegionLaw
namespace Go.Proofs.Ytgjkbkiehfpjcaa.Sm
open Go.RowKit Go.Proofs.Ytgjkbkiehfpjcaa Go.Proofs.Ytgjkbkiehfpjcaa.Crc
set_option linter.unusedVariables false

/-- bytes of which some neighbours are turned -/
def chg (l : List Nat) (k : Nat) (by_ : Nat → Nat) (m : Nat) : List Nat := (List.range l.length).map fun j => if k ≤ j ∧ j < k + m then l.getD j 0 ^^^ by_ (j - k) else l.getD j 0
theorem chg_length (l : List Nat) (k : Nat) (f : Nat → Nat) (m : Nat) : (chg l k f m).length = l.length := by simp [chg]
theorem chg_get (l : List Nat) (k : Nat) (f : Nat → Nat) (m j : Nat) (h : j < l.length) : (chg l k f m)[j]? = some (if k ≤ j ∧ j < k + m then l.getD j 0 ^^^ f (j - k) else l.getD j 0) := by simp [chg, h]
theorem chg_zero (l : List Nat) (k : Nat) (f : Nat → Nat) : chg l k f 0 = l := by
  apply List.ext_getElem?
  intro j
  by_cases h : j < l.length
  · rw [chg_get _ _ _ _ _ h, if_neg (by omega), List.getD_eq_getElem?_getD, List.getElem?_eq_getElem h]; rfl
  · rw [List.getElem?_eq_none (by rw [chg_length]; omega), List.getElem?_eq_none (by omega)]
theorem chg_at (l : List Nat) (k : Nat) (f : Nat → Nat) (m : Nat) (h : k + m < l.length) : (chg l k f m).getD (k + m) 0 = l.getD (k + m) 0 := by
  rw [List.getD_eq_getElem?_getD, chg_get _ _ _ _ _ h, if_neg (by omega)]; rfl
theorem chg_succ (l : List Nat) (k : Nat) (f : Nat → Nat) (m : Nat) (h : k + m < l.length) : (chg l k f m).set (k + m) (l.getD (k + m) 0 ^^^ f m) = chg l k f (m + 1) := by
  apply List.ext_getElem?
  intro j
  rw [List.getElem?_set]
  by_cases hj : j < l.length
  · rw [chg_get _ _ _ _ _ hj, chg_get _ _ _ _ _ hj, chg_length]
    by_cases e : k + m = j
    · subst e; rw [if_pos rfl, if_pos h, if_pos (by omega), Nat.add_sub_cancel_left]
    · rw [if_neg e]
      congr 1
      by_cases c : k ≤ j ∧ j < k + m
      · rw [if_pos c, if_pos (by omega)]
      · rw [if_neg c, if_neg (by omega)]
  · rw [if_neg (by omega), List.getElem?_eq_none (by rw [chg_length]; omega), List.getElem?_eq_none (by rw [chg_length]; omega)]
theorem chg_lt (l : List Nat) (k : Nat) (f : Nat → Nat) (m : Nat) (hl : ∀ c ∈ l, c < 256) (hf : ∀ j, f j < 256) : ∀ c ∈ chg l k f m, c < 256 := by
  intro c hc
  obtain ⟨j, _, rfl⟩ := List.mem_map.1 hc
  split
  · exact Nat.xor_lt_two_pow (n := 8) (byte_lt hl j) (hf _)
  · exact byte_lt hl j
theorem chg_same (l : List Nat) (k : Nat) (f : Nat → Nat) (m : Nat) (h : ∀ j, j < m → f j = 0) : chg l k f m = l := by
  apply List.ext_getElem?
  intro j
  by_cases hj : j < l.length
  · rw [chg_get _ _ _ _ _ hj, List.getD_eq_getElem?_getD, List.getElem?_eq_getElem hj]
    split
    · rw [h (j - k) (by omega)]; simp
    · rfl
  · rw [List.getElem?_eq_none (by rw [chg_length]; omega), List.getElem?_eq_none (by omega)]

theorem chg_sum (l : List Nat) (k : Nat) (f : Nat → Nat) (m : Nat) (hl : ∀ c ∈ l, c < 256) (hf : ∀ j, f j < 256) (hm : m ≤ 4) (hk : k + m ≤ l.length) (e : sum l = sum (chg l k f m)) : ∀ j, j < m → f j = 0 := by
  let v := (List.range m).map fun j => l.getD (k + j) 0 ^^^ f j
  let u := (List.range m).map fun j => l.getD (k + j) 0
  have el : l = l.take k ++ (u ++ l.drop (k + m)) := by
    apply List.ext_getElem?
    intro j
    by_cases h1 : j < k
    · rw [List.getElem?_append_left (by simp; omega), List.getElem?_take, if_pos h1]
    · rw [List.getElem?_append_right (by simp; omega)]
      have hlk : (l.take k).length = k := by simp; omega
      rw [hlk]
      by_cases h2 : j < k + m
      · rw [List.getElem?_append_left (by simp [u]; omega)]
        simp only [u, List.getElem?_map, List.getElem?_range (show j - k < m by omega), Option.map_some, List.getD_eq_getElem?_getD]
        rw [show k + (j - k) = j by omega, List.getElem?_eq_getElem (show j < l.length by omega)]; rfl
      · rw [List.getElem?_append_right (by simp [u]; omega), List.getElem?_drop]
        congr 1
        simp [u]; omega
  have ec : chg l k f m = l.take k ++ (v ++ l.drop (k + m)) := by
    apply List.ext_getElem?
    intro j
    by_cases h0 : j < l.length
    · rw [chg_get _ _ _ _ _ h0]
      by_cases h1 : j < k
      · rw [if_neg (by omega), List.getElem?_append_left (by simp; omega), List.getElem?_take, if_pos h1, List.getD_eq_getElem?_getD, List.getElem?_eq_getElem h0]; rfl
      · have hlk : (l.take k).length = k := by simp; omega
        rw [List.getElem?_append_right (by simp; omega), hlk]
        by_cases h2 : j < k + m
        · rw [if_pos (by omega), List.getElem?_append_left (by simp [v]; omega)]
          simp only [v, List.getElem?_map, List.getElem?_range (show j - k < m by omega), Option.map_some]
          rw [show k + (j - k) = j by omega]
        · rw [if_neg (by omega), List.getElem?_append_right (by simp [v]; omega), List.getElem?_drop, List.getD_eq_getElem?_getD, List.getElem?_eq_getElem h0]
          rw [show k + m + (j - k - v.length) = j by simp [v]; omega, List.getElem?_eq_getElem h0]; rfl
    · rw [List.getElem?_eq_none (by rw [chg_length]; omega), List.getElem?_eq_none (by simp [v]; omega)]
  have hs : l.foldl bs 4294967295 = (chg l k f m).foldl bs 4294967295 := xor_left_inj e
  rw [ec] at hs
  conv at hs => lhs; rw [el]
  rw [List.foldl_append, List.foldl_append, List.foldl_append, List.foldl_append] at hs
  have h0 : (l.take k).foldl bs 4294967295 < 4294967296 := foldl_lt _ (fun c hc => hl c (List.mem_of_mem_take hc)) _ (by omega)
  have hu : ∀ c ∈ u, c < 256 := fun c hc => by obtain ⟨j, _, rfl⟩ := List.mem_map.1 hc; exact byte_lt hl _
  have hv : ∀ c ∈ v, c < 256 := fun c hc => by obtain ⟨j, _, rfl⟩ := List.mem_map.1 hc; exact Nat.xor_lt_two_pow (n := 8) (byte_lt hl _) (hf j)
  have h1 := foldl_inj _ (fun c hc => hl c (List.mem_of_mem_drop hc)) _ _ (foldl_lt u hu _ h0) (foldl_lt v hv _ h0) hs
  have h2 := foldl_four u v hu hv (by simp [u, v]) (by simp [u]; omega) _ h0 h1
  intro j hj
  have h3 : u[j]? = v[j]? := by rw [h2]
  simp only [u, v, List.getElem?_map, List.getElem?_range hj, Option.map_some, Option.some.injEq] at h3
  have := congrArg (· ^^^ l.getD (k + j) 0) h3
  simp only [Nat.xor_self] at this
  rw [Nat.xor_comm (l.getD (k + j) 0), Nat.xor_assoc, Nat.xor_self, Nat.xor_zero] at this
  exact this.symm

/-- the values of bytes -/
def vals (l : List Nat) : List Value := l.map fun x : Nat => Value.int .u8 (x : Int)
theorem vals_length (l : List Nat) : (vals l).length = l.length := by simp [vals]
theorem vals_get (l : List Nat) (j : Nat) (h : j < l.length) : (vals l)[j]? = some (.int .u8 (l.getD j 0 : Nat)) := by
  simp only [vals, List.getElem?_map, List.getElem?_eq_getElem h, Option.map_some, List.getD_eq_getElem?_getD]; rfl
theorem vals_set (l : List Nat) (j x : Nat) : (vals l).set j (.int .u8 (x : Int)) = vals (l.set j x) := by simp [vals, List.map_set]
theorem vals_one (l : List Nat) : ∀ u ∈ vals l, u.oneCell' = true := by
  intro u hu
  obtain ⟨x, _, rfl⟩ := List.mem_map.1 hu
  rfl
/-- what the call owns reads as bytes -/
theorem rowB_own {w : World} {base g n cap : Nat} {e : TypeId} {l : List Nat} (h : w.ownsRow base e 1 (.slice (some ⟨g, 0, none⟩) n cap) n (vals l)) (hl : ∀ c ∈ l, c < 256) (hn : n ≤ 9223372036854775807) : RowB w (some ⟨g, 0, none⟩) n l := by
  obtain ⟨pp, cc, hv, hr⟩ := rowI_of_own (k := .u8) (zs := l.map fun x : Nat => (x : Int)) (by rw [List.map_map]; exact h) hn
  simp only [Value.slice.injEq] at hv
  obtain ⟨rfl, _, rfl⟩ := hv
  exact ⟨hr, hl⟩
/-- the cells of bytes that came in, as append asks for them -/
theorem news_rowB {w : World} {b off n : Nat} {l : List Nat} (h : RowB w (some ⟨b, off, none⟩) n l) (h0 : 0 < n) : ∀ j u, (vals l)[j]? = some u → w.cell? ((⟨b, off, none⟩ : Addr).add j) = some u := by
  intro j u hu
  have hj : j < l.length := by
    rcases Nat.lt_or_ge j l.length with h1 | h1
    · exact h1
    · rw [List.getElem?_eq_none (by rw [vals_length]; exact h1)] at hu; cases hu
  obtain ⟨b', off', hp, hc⟩ := h.cells h0
  simp only [Option.some.injEq, Addr.mk.injEq, and_true] at hp
  obtain ⟨rfl, rfl⟩ := hp
  have e : (⟨b, off, none⟩ : Addr).add j = ⟨b, off + j, none⟩ := by unfold Addr.add; split <;> simp_all
  rw [e, hc j (by rw [← h.length]; exact hj), ← vals_get l j hj, hu]

theorem four_get (f : Nat → Nat) (m : Nat) (h : m < 4) : (#[Value.int .u8 (f 0 : Nat), .int .u8 (f 1 : Nat), .int .u8 (f 2 : Nat), .int .u8 (f 3 : Nat)] : Array Value)[m]? = some (.int .u8 (f m : Nat)) := by
  match m, h with
  | 0, _ => rfl
  | 1, _ => rfl
  | 2, _ => rfl
  | 3, _ => rfl
theorem all_succ_yes {f : Nat → Nat} {m : Nat} (h : ∀ j, j < m → f j = 0) (z : f m = 0) : true = true ↔ ∀ j, j < m + 1 → f j = 0 :=
  ⟨fun _ j hj => by
    by_cases e : j = m
    · subst e; exact z
    · exact h j (by omega), fun _ => rfl⟩
theorem all_succ_no {f : Nat → Nat} {m : Nat} (z : ¬ f m = 0) : false = true ↔ ∀ j, j < m + 1 → f j = 0 := ⟨fun h => (by cases h), fun h => absurd (h m (by omega)) z⟩
theorem all_succ_false {f : Nat → Nat} {m : Nat} (h : false = true ↔ ∀ j, j < m → f j = 0) : false = true ↔ ∀ j, j < m + 1 → f j = 0 :=
  ⟨fun k => (by cases k), fun k => h.2 fun j hj => k j (by omega)⟩
theorem burst_eq {l : List Nat} {k m : Nat} {f : Nat → Nat} {b : Bool} (hl : ∀ c ∈ l, c < 256) (hf : ∀ j, f j < 256) (hm : m ≤ 4) (hk : k + m ≤ l.length) (hb : b = true ↔ ∀ j, j < m → f j = 0) :
    ((((sum l : Nat) : Int) == ((sum (chg l k f m) : Nat) : Int)) == b) = true := by
  cases b
  · have : ¬ sum l = sum (chg l k f m) := fun e => by
      have := hb.2 (chg_sum l k f m hl hf hm hk e)
      cases this
    simp; omega
  · rw [chg_same l k f m (hb.1 rfl)]; simp

def BurstR (w w1 : World) (g cap n k : Nat) (l : List Nat) (f : Nat → Nat) (s i : Value) (wr : World) : Prop :=
  ∃ (m : Nat) (b : Bool), i = .int .i64 m ∧ s = .bool b ∧ m ≤ 4 ∧ k + m ≤ n ∧ (b = true ↔ ∀ j, j < m → f j = 0) ∧ wr.ownsRow w1.heap.size 5 1 (.slice (some ⟨g, 0, none⟩) n cap) n (vals (chg l k f m)) ∧ Ext w1 wr

set_option maxRecDepth 100000 in
set_option maxHeartbeats 8000000 in
theorem bursts_walk {p : Option Addr} {n c at_ : Nat} {l : List Nat} {f : Nat → Nat} {w : World} (hp : RowB w p n l) (hc : n ≤ c) (hat : at_ < 65536) (hf : ∀ j, f j < 256) :
    Calls Try.prog 4 #[.slice p n c, .int .u16 at_, .agg #[.int .u8 (f 0 : Nat), .int .u8 (f 1 : Nat), .int .u8 (f 2 : Nat), .int .u8 (f 3 : Nat)]] w fun e w' => e = .returned (.bool true) ∧ Ext w w' := by
  obtain ⟨i0, hi0, hz0, hz1, hz2⟩ := info_parts info_u8
  have HP := Lib.hid hp
  have HF := Lib.hid hf
  have b1 := hp.le
  clear hp hf
  by_cases h400 : n ≤ 400
  · by_cases hn0 : n = 0
    · subst hn0
      go_enter Try.func4, Try.ntmps4
      go_wp2_with fail
      refine (head_any _).mono ?_
      rintro e w1 ⟨rfl, hx⟩
      go_wp2
      go_ret
      exact ⟨rfl, Ext.trans (Ext.alloc _ _) hx⟩
    · obtain ⟨b, off, rfl, hcl⟩ := HP.out.cells (by omega)
      clear hcl
      have hn1 : ((n : Int) == 0) = false := by simpa using hn0
      have hn2 : 0 < n := by omega
      obtain ⟨k, hk⟩ : ∃ k : Nat, (at_ : Int) % (n : Int) = (k : Int) := ⟨at_ % n, by omega⟩
      have hkn : k < n := by have := Int.emod_lt_of_pos (at_ : Int) (show (0 : Int) < n by omega); omega
      go_enter Try.func4, Try.ntmps4
      go_wp2_with fail
      refine (head_any _).mono ?_
      rintro e w1 ⟨rfl, hx0⟩
      have hx : Ext w w1 := Ext.trans (Ext.alloc _ _) hx0
      have cb : ∀ j v, (#[Value.int .u8 (f 0 : Nat), .int .u8 (f 1 : Nat), .int .u8 (f 2 : Nat), .int .u8 (f 3 : Nat)] : Array Value)[j]? = some v → w1.cell? ⟨w.heap.size, j, none⟩ = some v := fun j v hv => hx0.cell ((cell_of_row _ _ _ _ _ _ (heap_alloc_new w _)).trans hv)
      have CB := Lib.hid cb
      clear cb hx0
      have HR := Lib.hid (HP.out.ext hx)
      have hl := HP.out.length
      have HL := Lib.hid hl
      clear hl
      go_wp2_with (at_builtin; refine wpList_append_lies _ rfl (.tmp 22) (.tmp 23) 22 rfl w1.heap.size 5 i0 (.int .u8 0) 1 1 Try.underlying22 hi0 hz0 hz1 hz2 rfl (by decide) _ 0 [] rfl (World.ownsRow_made (e := 5) (size := 1) w1 #[] 0 (Nat.le_refl _) (by decide) rfl) ⟨b, off, none⟩ n c (vals l) rfl (by rw [vals_length, HL.out]; omega) (news_rowB (HR.out.ext (Ext.alloc _ _)) hn2) (vals_one l) hn2 (by unfold maxLen; omega) (by omega) (by simp) (w1.heap.size + 1) (by simp) ?_; intro g cap w2 hown1 hgrow hat2 hlt2)
      have X : Ext w1 w2 := below_grown (Ext.alloc _ _) (Nat.le_refl _) hgrow (World.ownsRow_made (e := 5) (size := 1) w1 #[] 0 (Nat.le_refl _) (by decide) rfl)
      simp only [Nat.zero_add, List.nil_append] at hown1
      have HO := Lib.hid hown1
      clear hgrow hat2 hlt2 hown1
      go_wp2
      first | rw [hk] | skip
      clear hk
      go_loopw [10, 11] (fun s i wr => BurstR w w1 g cap n k l f s i wr) (fun _ i _ => 4 - (intOf i).toNat)
      case atStart => exact ⟨0, true, rfl, rfl, by omega, by omega, ⟨fun _ j hj => by omega, fun _ => rfl⟩, by rw [chg_zero]; exact HO.out, X⟩
      case round =>
        obtain ⟨m, bb, rfl, rfl, hm, hkm0, hb, hown, hxr⟩ := hrel
        have HO2 := Lib.hid hown
        have HB := Lib.hid hb
        clear hb HO
        by_cases hm4 : m < 4
        · by_cases hkm : k + m < n
          · clear hown
            cases bb
            · have hkm' : ((k : Int) + (m : Int)) < (n : Int) := by omega
              have hm4' : (m : Int) < 4 := by omega
              have h0 : (0 : Int) ≤ (k : Int) + (m : Int) := by omega
              have h00 : (0 : Int) ≤ (m : Int) := by omega
              have cg := (HO2.out.cellAt (k + m) (by omega)).trans (vals_get _ (k + m) (by rw [chg_length, HL.out]; exact hkm))
              rw [chg_at l k f m (by rw [HL.out]; exact hkm)] at cg
              have fg := HO2.out.frozenAt (k + m)
              have cbm : wr.cell? ⟨w.heap.size, m, none⟩ = some (.int .u8 (f m : Nat)) := Ext.cell hxr (CB.out m _ (four_get f m hm4))
              have hst := (HO2.out.stored (k + m) (.int .u8 ((l.getD (k + m) 0 ^^^ f m : Nat) : Int))).1
              rw [vals_set, chg_succ l k f m (by rw [HL.out]; exact hkm)] at hst
              have hst2 := own_ext (w' := (wr.setCell ⟨g, k + m, none⟩ (.int .u8 ((l.getD (k + m) 0 ^^^ f m : Nat) : Int))).drew) hst ⟨rfl, rfl, rfl, Nat.le_refl _, fun _ _ => rfl⟩
              have HST := Lib.hid hst2
              have z1 := u8x (byte_lt HR.out.2 (k + m)) (HF.out m)
              have hbk : w1.heap.size ≤ g := (HO2.out.lt g rfl).1
              have cb2 : (wr.setCell ⟨g, k + m, none⟩ (.int .u8 ((l.getD (k + m) 0 ^^^ f m : Nat) : Int))).cell? ⟨w.heap.size, m, none⟩ = some (.int .u8 (f m : Nat)) := by
                rw [World.cell?_setCell_other _ _ _ _ (fun e => by
                  have h1 : g = w.heap.size := congrArg Addr.block e
                  have h2 := World.block_lt_of_cell? w1 _ (CB.out m _ (four_get f m hm4))
                  simp at h2; omega)]
                exact cbm
              clear hst hst2
              generalize l.getD (k + m) 0 ^^^ f m = x1 at z1 HST cb2
              generalize l.getD (k + m) 0 = x0 at cg z1
              by_cases hz : f m = 0
              · have e1 : ((f m : Int) == 0) = true := by rw [hz]; rfl
                have HZ := Lib.hid hz
                clear hz
                go_wp2
                go_region
                go_wp2
                go_roundw
                case rel => exact ⟨m + 1, _, by go_num, rfl, by omega, by omega, all_succ_false HB.out, HST.out, Below.drew (Below.setCell hxr hbk _)⟩
                case measure => simp [intOf]; omega
              
              · have e1 : ((f m : Int) == 0) = false := by simpa using hz
                have HZ := Lib.hid hz
                clear hz
                go_wp2
                go_region
                go_wp2
                go_roundw
                case rel => exact ⟨m + 1, _, by go_num, rfl, by omega, by omega, all_succ_false HB.out, HST.out, Below.drew (Below.setCell hxr hbk _)⟩
                case measure => simp [intOf]; omega
              
            · have hkm' : ((k : Int) + (m : Int)) < (n : Int) := by omega
              have hm4' : (m : Int) < 4 := by omega
              have h0 : (0 : Int) ≤ (k : Int) + (m : Int) := by omega
              have h00 : (0 : Int) ≤ (m : Int) := by omega
              have cg := (HO2.out.cellAt (k + m) (by omega)).trans (vals_get _ (k + m) (by rw [chg_length, HL.out]; exact hkm))
              rw [chg_at l k f m (by rw [HL.out]; exact hkm)] at cg
              have fg := HO2.out.frozenAt (k + m)
              have cbm : wr.cell? ⟨w.heap.size, m, none⟩ = some (.int .u8 (f m : Nat)) := Ext.cell hxr (CB.out m _ (four_get f m hm4))
              have hst := (HO2.out.stored (k + m) (.int .u8 ((l.getD (k + m) 0 ^^^ f m : Nat) : Int))).1
              rw [vals_set, chg_succ l k f m (by rw [HL.out]; exact hkm)] at hst
              have hst2 := own_ext (w' := (wr.setCell ⟨g, k + m, none⟩ (.int .u8 ((l.getD (k + m) 0 ^^^ f m : Nat) : Int))).drew) hst ⟨rfl, rfl, rfl, Nat.le_refl _, fun _ _ => rfl⟩
              have HST := Lib.hid hst2
              have z1 := u8x (byte_lt HR.out.2 (k + m)) (HF.out m)
              have hbk : w1.heap.size ≤ g := (HO2.out.lt g rfl).1
              have cb2 : (wr.setCell ⟨g, k + m, none⟩ (.int .u8 ((l.getD (k + m) 0 ^^^ f m : Nat) : Int))).cell? ⟨w.heap.size, m, none⟩ = some (.int .u8 (f m : Nat)) := by
                rw [World.cell?_setCell_other _ _ _ _ (fun e => by
                  have h1 : g = w.heap.size := congrArg Addr.block e
                  have h2 := World.block_lt_of_cell? w1 _ (CB.out m _ (four_get f m hm4))
                  simp at h2; omega)]
                exact cbm
              clear hst hst2
              generalize l.getD (k + m) 0 ^^^ f m = x1 at z1 HST cb2
              generalize l.getD (k + m) 0 = x0 at cg z1
              by_cases hz : f m = 0
              · have e1 : ((f m : Int) == 0) = true := by rw [hz]; rfl
                have HZ := Lib.hid hz
                clear hz
                go_wp2
                go_region
                go_wp2
                go_roundw
                case rel => exact ⟨m + 1, _, by go_num, rfl, by omega, by omega, all_succ_yes (HB.out.1 (by simp)) HZ.out, HST.out, Below.drew (Below.setCell hxr hbk _)⟩
                case measure => simp [intOf]; omega
              
              · have e1 : ((f m : Int) == 0) = false := by simpa using hz
                have HZ := Lib.hid hz
                clear hz
                go_wp2
                go_region
                go_wp2
                go_roundw
                case rel => exact ⟨m + 1, _, by go_num, rfl, by omega, by omega, all_succ_no HZ.out, HST.out, Below.drew (Below.setCell hxr hbk _)⟩
                case measure => simp [intOf]; omega
              
          · have hkm' : ¬ ((k : Int) + (m : Int)) < (n : Int) := by omega
            have hm4' : (m : Int) < 4 := by omega
            clear hown
            have RC := Lib.hid (rowB_own HO2.out (chg_lt l k f m HR.out.2 HF.out) (by omega))
            go_wp2_with fail
            refine (of_any _ _ _ _ _ (HR.out.ext hxr)).mono ?_
            rintro e w5 ⟨rfl, hx5⟩
            have RC5 := Lib.hid (RC.out.ext hx5)
            go_wp2_with fail
            refine (of_any _ _ _ _ _ RC5.out).mono ?_
            rintro e w6 ⟨rfl, hx6⟩
            go_wp2
            go_ret
            refine ⟨ret_bool ?_, Ext.trans hx (Ext.trans hxr (Ext.trans hx5 hx6))⟩
            exact burst_eq HR.out.2 HF.out (by omega) (by rw [HL.out]; omega) HB.out
        · have hm4' : ¬ (m : Int) < 4 := by omega
          clear hown
          have RC := Lib.hid (rowB_own HO2.out (chg_lt l k f m HR.out.2 HF.out) (by omega))
          go_wp2_with fail
          refine (of_any _ _ _ _ _ (HR.out.ext hxr)).mono ?_
          rintro e w5 ⟨rfl, hx5⟩
          have RC5 := Lib.hid (RC.out.ext hx5)
          go_wp2_with fail
          refine (of_any _ _ _ _ _ RC5.out).mono ?_
          rintro e w6 ⟨rfl, hx6⟩
          go_wp2
          go_ret
          refine ⟨ret_bool ?_, Ext.trans hx (Ext.trans hxr (Ext.trans hx5 hx6))⟩
          exact burst_eq HR.out.2 HF.out (by omega) (by rw [HL.out]; omega) HB.out
  · have h4 : 400 < n := by omega
    go_enter Try.func4, Try.ntmps4
    go_wp2_with fail
    refine (head_any _).mono ?_
    rintro e w1 ⟨rfl, hx⟩
    go_wp2
    go_ret
    exact ⟨rfl, Ext.trans (Ext.alloc _ _) hx⟩

theorem four_bytes {z : List Int} (hl : z.length = 4) (hw : ∀ x ∈ z, (Lit.int .u8 x).wf = true) :
    ∃ f : Nat → Nat, (∀ j, f j < 256) ∧ (z.map (Value.int .u8)).toArray = #[.int .u8 (f 0 : Nat), .int .u8 (f 1 : Nat), .int .u8 (f 2 : Nat), .int .u8 (f 3 : Nat)] ∧ ∀ j, j < 4 → at0 z j = (f j : Int) := by
  match z, hl, hw with
  | [a, b, c, d], _, hw =>
    have ha := bd_u8 (hw a (by simp))
    have hb := bd_u8 (hw b (by simp))
    have hc := bd_u8 (hw c (by simp))
    have hd := bd_u8 (hw d (by simp))
    have e : ∀ x : Int, 0 ≤ x → ((x.toNat : Nat) : Int) = x := fun x h => by omega
    refine ⟨fun j => (at0 [a, b, c, d] j).toNat, fun j => ?_, ?_, fun j hj => ?_⟩
    · match j with
      | 0 => simp [at0]; omega
      | 1 => simp [at0]; omega
      | 2 => simp [at0]; omega
      | 3 => simp [at0]; omega
      | j + 4 => simp [at0]
    · simp [at0, e a ha.1, e b hb.1, e c hc.1, e d hd.1]
    · match j, hj with
      | 0, _ => simp [at0]; omega
      | 1, _ => simp [at0]; omega
      | 2, _ => simp [at0]; omega
      | 3, _ => simp [at0]; omega
theorem bursts_law {p : Option Addr} {n c : Nat} {l : List Nat} {x : Int} {z : List Int} {w : World} (hp : RowB w p n l) (hc : n ≤ c) (hx : (Lit.int .u16 x).wf = true) (hl : z.length = 4) (hw : ∀ x ∈ z, (Lit.int .u8 x).wf = true) :
    Calls Try.prog 4 #[.slice p n c, .int .u16 x, .agg (z.map (Value.int .u8)).toArray] w fun e w' => e = .returned (.bool true) ∧ Ext w w' := by
  obtain ⟨f, hf, hz, _⟩ := four_bytes hl hw
  have hb := bd_u16 hx
  obtain ⟨a, rfl⟩ := Int.eq_ofNat_of_zero_le hb.1
  rw [hz]
  exact bursts_walk hp hc (by omega) hf
end Go.Proofs.Ytgjkbkiehfpjcaa.Sm
