/- Votes: how entries lie; termAt, Newer. -/
import Derived.Test.YtmcenioblbcehaaRep
import Derived.BigQuiet
import Derived.IntWalk
namespace Go.Proofs.Ytmcenioblbcehaa.Lg
open Go.RowKit Go.Proofs.Ytmcenioblbcehaa
set_option linter.unusedVariables false

abbrev Ent := Int × List Int
def LB : Lay (List Int) := Lay.slice (Lay.int .u8)
def LEnt : Lay Ent := Lay.pair (Lay.int .i64) LB
theorem ent_cells {w : World} {cs : List Value} {x : Ent} (h : LEnt.R w cs x) : ∃ p n c, cs = [.int .i64 x.1, .slice p n c] ∧ (Lit.int .i64 x.1).wf = true ∧ (Lay.int .u8).Row w p n x.2 ∧ n ≤ c ∧ c ≤ 9223372036854775807 ∧ Pl p c := by
  obtain ⟨a, b, rfl, ⟨rfl, hw⟩, v, rfl, p, n, c, rfl, h1, h2, h3, h4⟩ := h
  exact ⟨p, n, c, rfl, hw, h1, h2, h3, h4⟩
theorem ent_at {w : World} {p : Option Addr} {n : Nat} {l : List Ent} (h : LEnt.Row w p n l) {j : Nat} {x : Ent} (hj : l[j]? = some x) :
    ∃ b off q m d, p = some ⟨b, off, none⟩ ∧ w.cell? ⟨b, off + j * 2, none⟩ = some (.int .i64 x.1) ∧ w.cell? ⟨b, off + j * 2 + 1, none⟩ = some (.slice q m d) ∧ (Lit.int .i64 x.1).wf = true ∧ (Lay.int .u8).Row w q m x.2 ∧ m ≤ d ∧ d ≤ 9223372036854775807 ∧ Pl q d := by
  obtain ⟨b, off, y, cs, rfl, hy, hr, hc⟩ := h.get (j := j) (by rw [← h.1]; exact (List.getElem?_eq_some_iff.1 hj).1)
  obtain rfl : x = y := by simpa [hj] using hy
  obtain ⟨q, m, d, rfl, hw, h1, h2, h3, h4⟩ := ent_cells hr
  exact ⟨b, off, q, m, d, rfl, hc 0 _ rfl, hc 1 _ rfl, hw, h1, h2, h3, h4⟩



theorem ent_get {l : List Ent} {j : Nat} (h : j < l.length) : l[j]? = some (l.getD j (0, [])) := by
  rw [List.getD_eq_getElem?_getD, List.getElem?_eq_getElem h]; rfl
def termOf (l : List Ent) (a : Int) : Int := if a = 0 then 0 else (l.getD (a - 1).toNat (0, [])).1
theorem termOf_zero (l : List Ent) : termOf l 0 = 0 := rfl
theorem termOf_succ (l : List Ent) (i : Nat) : termOf l ((i : Int) + 1) = (l.getD i (0, [])).1 := by
  unfold termOf; rw [if_neg (by omega), show ((i : Int) + 1 - 1).toNat = i by omega]
def fitsB (l : List Ent) (a t : Int) : Bool := decide (0 ≤ a ∧ a ≤ l.length ∧ termOf l a = t)
def newerB (l : List Ent) (t m : Int) : Bool := decide (termOf l l.length < t ∨ (t = termOf l l.length ∧ (l.length : Int) ≤ m))

theorem term_any (p : Option Addr) (n c : Nat) (l : List Ent) (w : World) (h : LEnt.Row w p n l) (a : Int) (ha : 0 ≤ a) (hb : a ≤ n) :
    Calls Try.prog 37 #[.slice p n c, .int .i64 a] w fun e w' => e = .returned (.int .i64 (termOf l a)) ∧ w = w' := by
  by_cases h0 : a = 0
  · subst h0
    rw [termOf_zero]
    clear h
    go_enter Try.func37, Try.ntmps37
    go_wp2
    go_ret
    exact ⟨rfl, rfl⟩
  · obtain ⟨i, rfl⟩ : ∃ i : Nat, a = (i : Int) + 1 := ⟨(a - 1).toNat, by omega⟩
    rw [termOf_succ]
    obtain ⟨b, off, q, m, d, rfl, c0, _⟩ := ent_at h (ent_get (l := l) (j := i) (by rw [h.1]; omega))
    have h64 := h.2.1
    clear h h0
    generalize (l.getD i (0, [])).1 = T at c0 ⊢
    go_enter Try.func37, Try.ntmps37
    go_wp2
    go_ret
    exact ⟨rfl, rfl⟩

set_option maxHeartbeats 1000000 in
theorem newer_any (p : Option Addr) (n c : Nat) (l : List Ent) (w : World) (h : LEnt.Row w p n l) (t m : Int) :
    Calls Try.prog 34 #[.slice p n c, .int .i64 t, .int .i64 m] w fun e w' => e = .returned (.bool (newerB l t m)) ∧ w = w' := by
  have HL := Lib.hid h.1
  have h64 := h.2.1
  have hc := term_any p n c l w h n (by omega) (by omega)
  have HN : Hid (newerB l t m = decide (termOf l n < t ∨ (t = termOf l n ∧ (n : Int) ≤ m))) := Lib.hid (by unfold newerB; rw [HL.out])
  rw [HN.out]
  have HC := Lib.hid hc
  clear hc h HL HN
  generalize termOf l n = T at HC ⊢
  by_cases h1 : T < t
  · have hd : decide (T < t) = true := decide_eq_true h1
    have he : decide (T < t ∨ (t = T ∧ (n : Int) ≤ m)) = true := by simp [h1]
    rw [he]
    clear he
    go_enter Try.func34, Try.ntmps34
    go_wp2_with (go_at_call 37; refine HC.out.mono ?_; rintro e w' ⟨rfl, rfl⟩)
    go_ret
    exact ⟨rfl, rfl⟩
  · by_cases h2 : t = T
    · subst h2
      have he : decide (t < t ∨ (t = t ∧ (n : Int) ≤ m)) = decide ((n : Int) ≤ m) := by simp
      rw [he]
      clear he
      go_enter Try.func34, Try.ntmps34
      go_wp2_with (go_at_call 37; refine HC.out.mono ?_; rintro e w' ⟨rfl, rfl⟩)
      go_ret
      exact ⟨rfl, rfl⟩
    · have he : decide (T < t ∨ (t = T ∧ (n : Int) ≤ m)) = false := by simp [h1, h2]
      have hq : (t == T) = false := by simp [h2]
      have hd : decide (T < t) = false := decide_eq_false h1
      rw [he]
      clear he
      go_enter Try.func34, Try.ntmps34
      go_wp2_with (go_at_call 37; refine HC.out.mono ?_; rintro e w' ⟨rfl, rfl⟩)
      go_ret
      exact ⟨rfl, rfl⟩

theorem rterm_any (p : Option Addr) (n c : Nat) (l : List Ent) (w : World) (h : LEnt.Row w p n l) (a : Int) (ha : 0 ≤ a) (hb : a ≤ n) :
    Calls Try.prog 35 #[.slice p n c, .int .i64 a] w fun e w' => e = .returned (.int .i64 (termOf l a)) ∧ w = w' := by
  by_cases h0 : a = 0
  · subst h0
    rw [termOf_zero]
    clear h
    go_enter Try.func35, Try.ntmps35
    go_wp2
    go_ret
    exact ⟨rfl, rfl⟩
  · obtain ⟨i, rfl⟩ : ∃ i : Nat, a = (i : Int) + 1 := ⟨(a - 1).toNat, by omega⟩
    rw [termOf_succ]
    obtain ⟨b, off, q, m, d, rfl, c0, _⟩ := ent_at h (ent_get (l := l) (j := i) (by rw [h.1]; omega))
    have h64 := h.2.1
    clear h h0
    generalize (l.getD i (0, [])).1 = T at c0 ⊢
    go_enter Try.func35, Try.ntmps35
    go_wp2
    go_ret
    exact ⟨rfl, rfl⟩

set_option maxHeartbeats 1000000 in
theorem rnewer_any (p : Option Addr) (n c : Nat) (l : List Ent) (w : World) (h : LEnt.Row w p n l) (t m : Int) :
    Calls Try.prog 23 #[.slice p n c, .int .i64 t, .int .i64 m] w fun e w' => e = .returned (.bool (newerB l t m)) ∧ w = w' := by
  have HL := Lib.hid h.1
  have h64 := h.2.1
  have hc := rterm_any p n c l w h n (by omega) (by omega)
  have HN : Hid (newerB l t m = decide (termOf l n < t ∨ (t = termOf l n ∧ (n : Int) ≤ m))) := Lib.hid (by unfold newerB; rw [HL.out])
  rw [HN.out]
  have HC := Lib.hid hc
  clear hc h HL HN
  generalize termOf l n = T at HC ⊢
  by_cases h1 : T < t
  · have hd : decide (T < t) = true := decide_eq_true h1
    have he : decide (T < t ∨ (t = T ∧ (n : Int) ≤ m)) = true := by simp [h1]
    rw [he]
    clear he
    go_enter Try.func23, Try.ntmps23
    go_wp2_with (go_at_call 35; refine HC.out.mono ?_; rintro e w' ⟨rfl, rfl⟩)
    go_ret
    exact ⟨rfl, rfl⟩
  · by_cases h2 : t = T
    · subst h2
      have he : decide (t < t ∨ (t = t ∧ (n : Int) ≤ m)) = decide ((n : Int) ≤ m) := by simp
      rw [he]
      clear he
      go_enter Try.func23, Try.ntmps23
      go_wp2_with (go_at_call 35; refine HC.out.mono ?_; rintro e w' ⟨rfl, rfl⟩)
      go_ret
      exact ⟨rfl, rfl⟩
    · have he : decide (T < t ∨ (t = T ∧ (n : Int) ≤ m)) = false := by simp [h1, h2]
      have hq : (t == T) = false := by simp [h2]
      have hd : decide (T < t) = false := decide_eq_false h1
      rw [he]
      clear he
      go_enter Try.func23, Try.ntmps23
      go_wp2_with (go_at_call 35; refine HC.out.mono ?_; rintro e w' ⟨rfl, rfl⟩)
      go_ret
      exact ⟨rfl, rfl⟩
end Go.Proofs.Ytmcenioblbcehaa.Lg
