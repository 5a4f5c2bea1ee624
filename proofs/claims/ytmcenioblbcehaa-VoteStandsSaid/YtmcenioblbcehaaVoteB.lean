/- Votes: how seats lie; Down, Begin, of both. -/
import Derived.Test.YtmcenioblbcehaaVoteA
import Derived.Test.YtmcenioblbcehaaRepI
namespace Go.Proofs.Ytmcenioblbcehaa.Lg
open Go.RowKit Go.Proofs.Ytmcenioblbcehaa
set_option linter.unusedVariables false

structure SlV where
  p : Option Addr
  n : Nat
  c : Nat
def SlV.nil : SlV := ⟨none, 0, 0⟩
/-- a seat's cells -/
structure SeatV where
  i : Int
  t : Int
  v : Int
  r : Int
  c : Int
  P : SlV
  L : SlV
  V : SlV
  N : SlV
  M : SlV
def seatA (s : SeatV) : Array Value := #[.int .i64 s.i, .slice s.P.p s.P.n s.P.c, .int .i64 s.t, .int .i64 s.v, .int .i64 s.r, .slice s.L.p s.L.n s.L.c, .int .i64 s.c, .slice s.V.p s.V.n s.V.c, .slice s.N.p s.N.n s.N.c, .slice s.M.p s.M.n s.M.c]
/-- a seat -/
structure St where
  i : Int
  t : Int
  v : Int
  r : Int
  c : Int
  P : List Int
  L : List Ent
  V : List Int
  N : List Int
  M : List Int
abbrev LI : Lay Int := Lay.int .i64
def SlR {α : Type} (E : Lay α) (w : World) (s : SlV) (l : List α) : Prop := E.Row w s.p s.n l ∧ s.n ≤ s.c ∧ s.c ≤ 9223372036854775807 ∧ Pl s.p s.c
theorem SlR.ext {α : Type} {E : Lay α} {w w' : World} {s : SlV} {l : List α} (h : SlR E w s l) (hx : Ext w w') : SlR E w' s l := ⟨h.1.ext hx, h.2⟩
theorem SlR.nil {α : Type} (E : Lay α) (w : World) : SlR E w SlV.nil [] := ⟨Lay.Row.nil E w _, Nat.le_refl _, by simp [SlV.nil], fun h => by simp [SlV.nil] at h⟩
theorem SlR.of {α : Type} {E : Lay α} {w : World} {v : Value} {l : List α} (h : E.Sl w v l) : ∃ s : SlV, v = .slice s.p s.n s.c ∧ SlR E w s l := by
  obtain ⟨p, n, c, rfl, h1, h2, h3, h4⟩ := h
  exact ⟨⟨p, n, c⟩, rfl, h1, h2, h3, h4⟩
structure SeatR (w : World) (s : SeatV) (d : St) : Prop where
  i : s.i = d.i
  t : s.t = d.t
  v : s.v = d.v
  r : s.r = d.r
  c : s.c = d.c
  P : SlR LI w s.P d.P
  L : SlR LEnt w s.L d.L
  V : SlR LI w s.V d.V
  N : SlR LI w s.N d.N
  M : SlR LI w s.M d.M
theorem SeatR.ext {w w' : World} {s : SeatV} {d : St} (h : SeatR w s d) (hx : Ext w w') : SeatR w' s d :=
  ⟨h.i, h.t, h.v, h.r, h.c, h.P.ext hx, h.L.ext hx, h.V.ext hx, h.N.ext hx, h.M.ext hx⟩
/-- it steps down -/
def downD (d : St) (term : Int) : St := { d with t := term, v := -1, r := 1, V := [], N := [], M := [] }
/-- it stands -/
def beginD (d : St) : St := { d with t := d.t + 1, v := d.i, r := 2, V := [d.i], N := [], M := [] }
def RetSeat (w : World) (d : St) (e : Ending) (w' : World) : Prop := (∃ s, e = .returned (.agg (seatA s)) ∧ SeatR w' s d) ∧ Ext w w'

/-- what the answer reads as, wherever the seat reads as it did -/
def RetT (w : World) (s : SeatV) (F : St → St) (e : Ending) (w' : World) : Prop := (∃ s', e = .returned (.agg (seatA s')) ∧ ∀ (W : World) (d : St), SeatR W s d → SeatR W s' (F d)) ∧ Ext w w'
def RetB (w : World) (s : SeatV) (e : Ending) (w' : World) : Prop := (∃ s' b, e = .returned (.agg (seatA s')) ∧ w.heap.size ≤ b ∧ b < w'.heap.size ∧ ∀ (W : World) (d : St), SeatR W s d → W.heap[b]? = w'.heap[b]? → SeatR W s' (beginD d)) ∧ Ext w w'
theorem third_new (w : World) (a b c : Obj) : (((w.alloc a).alloc b).alloc c).heap[w.heap.size + 2]? = some c := by
  have := heap_alloc_new ((w.alloc a).alloc b) c
  simpa using this
theorem SlR.blk {W : World} {y x : Int} {T : TypeId} {B : Nat} (h : W.heap[B]? = some (.cells #[.int .i64 y] T (0, 0))) (hy : y = x) (hw : (Lit.int .i64 y).wf = true) : SlR LI W ⟨some ⟨B, 0, none⟩, 1, 1⟩ [x] := by
  subst hy
  refine ⟨⟨rfl, by simp, [.int .i64 y], Lay.All.single ⟨rfl, hw⟩, fun _ => ⟨B, 0, rfl, fun j u hu => ?_⟩⟩, Nat.le_refl _, by simp, fun _ => ⟨_, _, rfl⟩⟩
  rw [cell_of_row _ _ _ _ _ _ h, Nat.zero_add]
  simpa using hu
theorem SlR.lit1 {w w1 : World} {y x : Int} {T : TypeId} {B : Nat} (hx : Ext (w.alloc (.cells #[.int .i64 y] T)) w1) (hB : w.heap.size = B) (hy : y = x) (hw : (Lit.int .i64 x).wf = true) : SlR LI w1 ⟨some ⟨B, 0, none⟩, 1, 1⟩ [x] := by
  subst hy
  exact ⟨Lay.Row.lit hx (Lay.All.single ⟨rfl, hw⟩) hB rfl (by simp), Nat.le_refl _, by simp, fun _ => ⟨_, _, rfl⟩⟩
theorem RetSeat.of {w w' : World} {s : SeatV} {d : St} (hx : Ext w w') (h : ∀ W, Ext w W → SeatR W s d) : RetSeat w d (.returned (.agg (seatA s))) w' := ⟨⟨s, rfl, h _ hx⟩, hx⟩
theorem RetSeat.of2 {w w' : World} {s : SeatV} {d : St} (hx : Ext w w') (h : Ext w w' → SeatR w' s d) : RetSeat w d (.returned (.agg (seatA s))) w' := ⟨⟨s, rfl, h hx⟩, hx⟩

set_option maxRecDepth 100000 in
set_option maxHeartbeats 1000000 in
theorem down_any (s : SeatV) (w : World) (term : Int) :
    Calls Try.prog 26 #[.agg (seatA s), .int .i64 term] w fun e w' => RetT w s (fun d => downD d term) e w' := by
  unfold seatA
  go_enter Try.func26, Try.ntmps26
  go_wp2
  refine bodyPost_ret (v := .agg (seatA { s with t := term, v := -1, r := 1, V := SlV.nil, N := SlV.nil, M := SlV.nil })) (by simp [results, Try.results26, go_sem, seatA, SlV.nil]) rfl ⟨⟨_, rfl, fun W d h => ?_⟩, ?_⟩
  case refine_2 => (unfold Ext; repeat (first | exact Below.refl _ _ | assumption | refine Below.drew ?_ | refine below_drewN ?_ _ | refine Below.alloc ?_ (by first | exact Nat.le_refl _ | (simp; done) | (simp; omega) | omega) _ | refine Below.setCell ?_ (by first | exact Nat.le_refl _ | (simp; done) | (simp; omega) | omega) _))
  · exact ⟨h.i, rfl, rfl, rfl, h.c, h.P, h.L, SlR.nil _ _, SlR.nil _ _, SlR.nil _ _⟩

set_option maxRecDepth 100000 in
set_option maxHeartbeats 1000000 in
theorem rdown_any (s : SeatV) (w : World) (term : Int) :
    Calls Try.prog 14 #[.agg (seatA s), .int .i64 term] w fun e w' => RetT w s (fun d => downD d term) e w' := by
  unfold seatA
  go_enter Try.func14, Try.ntmps14
  go_wp2
  refine bodyPost_ret (v := .agg (seatA { s with t := term, v := -1, r := 1, V := SlV.nil, N := SlV.nil, M := SlV.nil })) (by simp [results, Try.results14, go_sem, seatA, SlV.nil]) rfl ⟨⟨_, rfl, fun W d h => ?_⟩, ?_⟩
  case refine_2 => (unfold Ext; repeat (first | exact Below.refl _ _ | assumption | refine Below.drew ?_ | refine below_drewN ?_ _ | refine Below.alloc ?_ (by first | exact Nat.le_refl _ | (simp; done) | (simp; omega) | omega) _ | refine Below.setCell ?_ (by first | exact Nat.le_refl _ | (simp; done) | (simp; omega) | omega) _))
  · exact ⟨h.i, rfl, rfl, rfl, h.c, h.P, h.L, SlR.nil _ _, SlR.nil _ _, SlR.nil _ _⟩

set_option maxRecDepth 100000 in
set_option maxHeartbeats 1000000 in
theorem begin_any (s : SeatV) (w : World) (hi : (Lit.int .i64 s.i).wf = true) (h0 : 0 ≤ s.t) (h1 : s.t ≤ 1000000000) :
    Calls Try.prog 20 #[.agg (seatA s)] w fun e w' => RetB w s e w' := by
  have HI := Lib.hid hi
  clear hi
  unfold seatA
  go_enter Try.func20, Try.ntmps20
  go_wp2
  refine bodyPost_ret (v := .agg (seatA { s with t := s.t + 1, v := s.i, r := 2, V := ⟨some ⟨w.heap.size + 2, 0, none⟩, 1, 1⟩, N := SlV.nil, M := SlV.nil })) (by simp [results, Try.results20, go_sem, seatA, SlV.nil]) rfl ⟨⟨_, w.heap.size + 2, rfl, by omega, by simp, fun W d h hb => ?_⟩, ?_⟩
  case refine_2 => (unfold Ext; repeat (first | exact Below.refl _ _ | assumption | refine Below.drew ?_ | refine below_drewN ?_ _ | refine Below.alloc ?_ (by first | exact Nat.le_refl _ | (simp; done) | (simp; omega) | omega) _ | refine Below.setCell ?_ (by first | exact Nat.le_refl _ | (simp; done) | (simp; omega) | omega) _))
  · refine ⟨h.i, by rw [beginD, ← h.t], by rw [beginD, ← h.i], rfl, h.c, h.P, h.L, ?_, SlR.nil _ _, SlR.nil _ _⟩
    have e : W.heap[w.heap.size + 2]? = some (.cells #[.int .i64 s.i] 3 (0, 0)) := by
      rw [hb]; exact third_new _ _ _ _
    exact SlR.blk e h.i HI.out

set_option maxRecDepth 100000 in
set_option maxHeartbeats 1000000 in
theorem rbegin_any (s : SeatV) (w : World) (hi : (Lit.int .i64 s.i).wf = true) (h0 : 0 ≤ s.t) (h1 : s.t ≤ 1000000000) :
    Calls Try.prog 12 #[.agg (seatA s)] w fun e w' => RetB w s e w' := by
  have HI := Lib.hid hi
  clear hi
  unfold seatA
  go_enter Try.func12, Try.ntmps12
  go_wp2
  refine bodyPost_ret (v := .agg (seatA { s with t := s.t + 1, v := s.i, r := 2, V := ⟨some ⟨w.heap.size + 2, 0, none⟩, 1, 1⟩, N := SlV.nil, M := SlV.nil })) (by simp [results, Try.results12, go_sem, seatA, SlV.nil]) rfl ⟨⟨_, w.heap.size + 2, rfl, by omega, by simp, fun W d h hb => ?_⟩, ?_⟩
  case refine_2 => (unfold Ext; repeat (first | exact Below.refl _ _ | assumption | refine Below.drew ?_ | refine below_drewN ?_ _ | refine Below.alloc ?_ (by first | exact Nat.le_refl _ | (simp; done) | (simp; omega) | omega) _ | refine Below.setCell ?_ (by first | exact Nat.le_refl _ | (simp; done) | (simp; omega) | omega) _))
  · refine ⟨h.i, by rw [beginD, ← h.t], by rw [beginD, ← h.i], rfl, h.c, h.P, h.L, ?_, SlR.nil _ _, SlR.nil _ _⟩
    have e : W.heap[w.heap.size + 2]? = some (.cells #[.int .i64 s.i] 3 (0, 0)) := by
      rw [hb]; exact third_new _ _ _ _
    exact SlR.blk e h.i HI.out
end Go.Proofs.Ytmcenioblbcehaa.Lg
