/- Spans: how they lie; Has, of both. -/
import Derived.Test.YtdpaagingfeoeaaRepI
import Derived.Test.YtdpaagingfeoeaaSpanM
import Derived.BigQuiet
import Derived.IntWalk
import Derived.Deep.RegionWith
namespace Go.Proofs.Ytdpaagingfeoeaa.Sp
open Go.RowKit Go.Proofs.Ytdpaagingfeoeaa
set_option linter.unusedVariables false

def LSpan : Lay Span := Lay.pair (Lay.int .i64) (Lay.int .i64)
theorem span_cells {w : World} {cs : List Value} {x : Span} (h : LSpan.R w cs x) : cs = [.int .i64 x.1, .int .i64 x.2] ∧ (Lit.int .i64 x.1).wf = true ∧ (Lit.int .i64 x.2).wf = true := by
  obtain ⟨a, b, rfl, ⟨rfl, hw⟩, ⟨rfl, hw2⟩⟩ := h
  exact ⟨rfl, hw, hw2⟩
theorem span_at {w : World} {p : Option Addr} {n : Nat} {l : List Span} (h : LSpan.Row w p n l) {j : Nat} {x : Span} (hj : l[j]? = some x) :
    ∃ b off, p = some ⟨b, off, none⟩ ∧ w.cell? ⟨b, off + j * 2, none⟩ = some (.int .i64 x.1) ∧ w.cell? ⟨b, off + j * 2 + 1, none⟩ = some (.int .i64 x.2) ∧ (Lit.int .i64 x.1).wf = true ∧ (Lit.int .i64 x.2).wf = true := by
  obtain ⟨b, off, y, cs, rfl, hy, hr, hc⟩ := h.get (j := j) (by rw [← h.1]; exact (List.getElem?_eq_some_iff.1 hj).1)
  obtain rfl : x = y := by simpa [hj] using hy
  obtain ⟨rfl, h1, h2⟩ := span_cells hr
  exact ⟨b, off, rfl, hc 0 _ rfl, hc 1 _ rfl, h1, h2⟩
theorem get_of {β : Type} (l : List β) (j : Nat) (h : j < l.length) : ∃ x, l[j]? = some x := ⟨_, List.getElem?_eq_getElem h⟩

set_option maxHeartbeats 1000000 in
theorem has1_any (a b t : Int) (B : Nat) (w : World) (hB : w.cell? ⟨B, 0, none⟩ = some (.int .i64 t)) :
    Calls Try.prog 32 #[.agg #[.int .i64 a, .int .i64 b], .pointer (some ⟨B, 0, none⟩)] w fun e w' => e = .returned (.bool (inB (a, b) t)) ∧ Ext w w' := by
  have hB1 := (Ext.alloc w (.cells #[.int .i64 a, .int .i64 b] 33)).cell hB
  by_cases h1 : a ≤ t
  · have h1' : decide (a ≤ t) = true := decide_eq_true h1
    have e : inB (a, b) t = decide (t < b) := by simp [inB, h1]
    rw [e]
    clear e
    go_enter Try.func32, Try.ntmps32
    go_wp2
    go_ret
    exact ⟨rfl, Ext.alloc _ _⟩
  · have h1' : decide (a ≤ t) = false := decide_eq_false h1
    have e : inB (a, b) t = false := by simp [inB, h1]
    rw [e]
    clear e
    go_enter Try.func32, Try.ntmps32
    go_wp2
    go_ret
    exact ⟨rfl, Ext.alloc _ _⟩

/-- the first place where something holds, or -1 -/
def IxP {α : Type} (l : List α) (f : α → Bool) (r : Int) : Prop := (l.any f = true → 0 ≤ r) ∧ (l.any f = false → r < 0)
def RetIx {α : Type} (l : List α) (f : α → Bool) (w : World) (e : Ending) (w' : World) : Prop := (∃ r, e = .returned (.int .i64 r) ∧ Hid (IxP l f r)) ∧ Ext w w'
def IxR {α : Type} (w : World) (l : List α) (f : α → Bool) (n : Nat) (i : Value) (wr : World) : Prop := ∃ k : Nat, i = .int .i64 k ∧ k ≤ n ∧ Hid ((l.take k).any f = false) ∧ Ext w wr

set_option maxRecDepth 100000 in
set_option maxHeartbeats 1000000 in
theorem indexf_any (p : Option Addr) (n c B : Nat) (l : List Span) (t : Int) (w : World) (hl : LSpan.Row w p n l) (hB : w.cell? ⟨B, 0, none⟩ = some (.int .i64 t)) :
    Calls Try.prog 36 #[.slice p n c, .func (.func 32) #[] #[.pointer (some ⟨B, 0, none⟩)]] w (RetIx l (fun s => inB s t) w) := by
  have HP := Lib.hid hl
  have hn := hl.2.1
  have HB := Lib.hid hB
  clear hl hB
  go_enter Try.func36, Try.ntmps36
  go_wp2
  go_loopw [8] (fun i wr => IxR w l (fun s => inB s t) n i wr) (fun i _ => n - (intOf i).toNat)
  case atStart => exact ⟨0, rfl, by omega, Lib.hid rfl, Ext.refl _⟩
  case round =>
    obtain ⟨k, rfl, hk, HE, hx⟩ := hrel
    by_cases hlt : k < n
    · obtain ⟨s, gs⟩ := get_of l k (by rw [HP.out.1]; exact hlt)
      obtain ⟨b, off, rfl, c0, c1, _, _⟩ := span_at (HP.out.ext hx) gs
      have GS := Lib.hid gs
      have hlt' : (k : Int) < (n : Int) := by omega
      have hlt0 : (0 : Int) ≤ (k : Int) := by omega
      have HX := Lib.hid (hx.cell HB.out)
      have HT : Hid ((l.take (k + 1)).any (fun s => inB s t) = inB s t) := Lib.hid (by
        rw [List.take_add_one, gs, List.any_append, HE.out]; simp)
      clear gs
      obtain ⟨q, hq⟩ : ∃ q, inB s t = q := ⟨_, rfl⟩
      have HQ := Lib.hid hq
      clear hq
      go_wp2_with fail
      refine (has1_any _ _ _ _ _ HX.out).mono ?_
      rintro e w2 ⟨rfl, hx2⟩
      rw [HQ.out]
      replace hx := Ext.trans hx hx2
      clear hx2
      cases q
      · go_wp2
        go_roundw
        case rel => exact ⟨k + 1, by go_num, by omega, Lib.hid (by rw [HT.out, HQ.out]), hx⟩
        case measure => simp [intOf]; omega
      · go_wp2
        go_ret
        exact ⟨⟨_, rfl, Lib.hid ⟨fun _ => by omega, fun h => by
          rw [← List.take_append_drop (k + 1) l, List.any_append, HT.out, HQ.out] at h
          simp at h⟩⟩, hx⟩
    · obtain rfl : k = n := by omega
      go_wp2
      go_ret
      exact ⟨⟨_, rfl, Lib.hid ⟨fun h => by
        have := HE.out
        rw [List.take_of_length_le (by rw [HP.out.1]; omega)] at this
        rw [this] at h
        (cases h), fun _ => by omega⟩⟩, hx⟩

set_option maxHeartbeats 1000000 in
theorem containsf_any (p : Option Addr) (n c B : Nat) (l : List Span) (t : Int) (w : World) (hl : LSpan.Row w p n l) (hB : w.cell? ⟨B, 0, none⟩ = some (.int .i64 t)) :
    Calls Try.prog 31 #[.slice p n c, .func (.func 32) #[] #[.pointer (some ⟨B, 0, none⟩)]] w fun e w' => e = .returned (.bool (l.any fun s => inB s t)) ∧ Ext w w' := by
  have HC := Lib.hid (indexf_any p n c B l t w hl hB)
  clear hl hB
  obtain ⟨q, hq⟩ : ∃ q, (l.any fun s => inB s t) = q := ⟨_, rfl⟩
  have HQ := Lib.hid hq
  rw [hq]
  clear hq
  go_enter Try.func31, Try.ntmps31
  go_wp2_with fail
  refine HC.out.mono ?_
  rintro e w2 ⟨⟨r, rfl, HI⟩, hx⟩
  cases q
  · have h' : decide (0 ≤ r) = false := decide_eq_false (by have := HI.out.2 HQ.out; omega)
    go_wp2
    go_ret
    exact ⟨rfl, hx⟩
  · have h' : decide (0 ≤ r) = true := decide_eq_true (HI.out.1 HQ.out)
    go_wp2
    go_ret
    exact ⟨rfl, hx⟩

set_option maxRecDepth 100000 in
set_option maxHeartbeats 1000000 in
theorem has_any (p : Option Addr) (n c : Nat) (l : List Span) (t : Int) (w : World) (hl : LSpan.Row w p n l) :
    Calls Try.prog 20 #[.slice p n c, .int .i64 t] w fun e w' => e = .returned (.bool (hasB l t)) ∧ Ext w w' := by
  have HC := Lib.hid (containsf_any p n c w.heap.size l t (w.alloc (.cells #[.int .i64 t] 3)) (hl.ext (Ext.alloc _ _)) (new_cell w _ _))
  clear hl
  by_cases h0 : 0 ≤ t
  · have h0' : decide (0 ≤ t) = true := decide_eq_true h0
    by_cases h1 : t < 1099511627776
    · have h1' : decide (t < 1099511627776) = true := decide_eq_true h1
      have e : hasB l t = l.any fun s => inB s t := by unfold hasB; rw [decide_eq_true ⟨h0, h1⟩]; rfl
      rw [e]
      clear e
      generalize (l.any fun s => inB s t) = q at HC ⊢
      go_enter Try.func20, Try.ntmps20
      go_wp2_with fail
      refine HC.out.mono ?_
      rintro e w2 ⟨rfl, hx⟩
      go_wp2
      go_ret
      exact ⟨rfl, Ext.trans (Ext.alloc _ _) hx⟩
    · have h1' : decide (t < 1099511627776) = false := decide_eq_false h1
      have e : hasB l t = false := by unfold hasB; rw [decide_eq_false (fun h => h1 h.2)]; rfl
      rw [e]
      clear e HC
      go_enter Try.func20, Try.ntmps20
      go_wp2
      go_ret
      exact ⟨rfl, Ext.alloc _ _⟩
  · have h0' : decide (0 ≤ t) = false := decide_eq_false h0
    have e : hasB l t = false := by unfold hasB; rw [decide_eq_false (fun h => h0 h.1)]; rfl
    rw [e]
    clear e HC
    go_enter Try.func20, Try.ntmps20
    go_wp2
    go_ret
    exact ⟨rfl, Ext.alloc _ _⟩

def hasF (t : Int) (s : Span) : Bool := inB s t && decide (0 ≤ t ∧ t < 1099511627776)
def RHasR (l : List Span) (t : Int) (n : Nat) (i : Value) : Prop := ∃ k : Nat, i = .int .i64 k ∧ k ≤ n ∧ Hid ((l.take k).any (hasF t) = false)
theorem hasB_any (l : List Span) (t : Int) : hasB l t = l.any (hasF t) := by
  unfold hasB hasF
  cases decide (0 ≤ t ∧ t < 1099511627776) <;> simp

set_option maxRecDepth 100000 in
set_option maxHeartbeats 2000000 in
theorem rhas_any (p : Option Addr) (n c : Nat) (l : List Span) (t : Int) (w : World) (hl : LSpan.Row w p n l) :
    Calls Try.prog 21 #[.slice p n c, .int .i64 t] w fun e w' => e = .returned (.bool (hasB l t)) ∧ w = w' := by
  rw [hasB_any]
  have HP := Lib.hid hl
  have hn := hl.2.1
  clear hl
  go_enter Try.func21, Try.ntmps21
  go_wp2
  go_loop [5] (fun i => RHasR l t n i) (fun i => n - (intOf i).toNat)
  case atStart => exact ⟨0, rfl, by omega, Lib.hid rfl⟩
  case round =>
    obtain ⟨k, rfl, hk, HE⟩ := hrel
    by_cases hlt : k < n
    · obtain ⟨s, gs⟩ := get_of l k (by rw [HP.out.1]; exact hlt)
      obtain ⟨b, off, rfl, c0, c1, _, _⟩ := span_at HP.out gs
      obtain ⟨f, u⟩ := s
      simp only at c0 c1
      have hlt' : (k : Int) < (n : Int) := by omega
      have hlt0 : (0 : Int) ≤ (k : Int) := by omega
      have HT : Hid ((l.take (k + 1)).any (hasF t) = hasF t (f, u)) := Lib.hid (by
        rw [List.take_add_one, gs, List.any_append, HE.out]; simp)
      clear gs
      by_cases d1 : f ≤ t
      · have d1' : decide (f ≤ t) = true := decide_eq_true d1
        by_cases d2 : t < u
        · have d2' : decide (t < u) = true := decide_eq_true d2
          by_cases d3 : 0 ≤ t
          · have d3' : decide (0 ≤ t) = true := decide_eq_true d3
            by_cases d4 : t < 1099511627776
            · have d4' : decide (t < 1099511627776) = true := decide_eq_true d4
              have HQ : Hid (hasF t (f, u) = true) := Lib.hid (by simp [hasF, inB]; omega)
              go_wp2
              go_ret
              exact ⟨ret_bool (by
                rw [← List.take_append_drop (k + 1) l, List.any_append, HT.out, HQ.out]
                simp), rfl⟩
            · have d4' : decide (t < 1099511627776) = false := decide_eq_false d4
              have HQ : Hid (hasF t (f, u) = false) := Lib.hid (by simp [hasF, inB]; omega)
              go_wp2
              go_round
              case rel => exact ⟨k + 1, by go_num, by omega, Lib.hid (by rw [HT.out, HQ.out])⟩
              case measure => simp [intOf]; omega
          · have d3' : decide (0 ≤ t) = false := decide_eq_false d3
            have HQ : Hid (hasF t (f, u) = false) := Lib.hid (by simp [hasF, inB]; omega)
            go_wp2
            go_round
            case rel => exact ⟨k + 1, by go_num, by omega, Lib.hid (by rw [HT.out, HQ.out])⟩
            case measure => simp [intOf]; omega
        · have d2' : decide (t < u) = false := decide_eq_false d2
          have HQ : Hid (hasF t (f, u) = false) := Lib.hid (by simp [hasF, inB]; omega)
          go_wp2
          go_round
          case rel => exact ⟨k + 1, by go_num, by omega, Lib.hid (by rw [HT.out, HQ.out])⟩
          case measure => simp [intOf]; omega
      · have d1' : decide (f ≤ t) = false := decide_eq_false d1
        have HQ : Hid (hasF t (f, u) = false) := Lib.hid (by simp [hasF, inB]; omega)
        go_wp2
        go_round
        case rel => exact ⟨k + 1, by go_num, by omega, Lib.hid (by rw [HT.out, HQ.out])⟩
        case measure => simp [intOf]; omega
    · obtain rfl : k = n := by omega
      go_wp2
      go_ret
      exact ⟨ret_bool (by
        have := HE.out
        rw [List.take_of_length_le (by rw [HP.out.1]; omega)] at this
        exact this.symm), rfl⟩
end Go.Proofs.Ytdpaagingfeoeaa.Sp
