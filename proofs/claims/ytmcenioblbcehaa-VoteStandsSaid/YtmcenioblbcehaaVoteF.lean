/- Votes: Ask. -/
import Derived.Test.YtmcenioblbcehaaVoteE
namespace Go.Proofs.Ytmcenioblbcehaa.Lg
open Go.RowKit Go.Proofs.Ytmcenioblbcehaa
set_option linter.unusedVariables false

/-- what becomes of a seat that is asked -/
def upD (d : St) (term : Int) : St := if d.t < term then downD d term else d
def askB (d : St) (term who last many : Int) : Bool := decide (term = (upD d term).t) && (decide ((upD d term).v = -1 ∨ (upD d term).v = who) && newerB d.L last many)
def askD (d : St) (b : Bool) (term who : Int) : St := if b = true then { upD d term with v := who } else upD d term
/-- what is told, and what the seat reads as, wherever it reads as it did -/
def RetAsk (w : World) (s : SeatV) (b : Bool) (F : St → St) (e : Ending) (w' : World) : Prop := (∃ s', e = .returned (.tuple #[.agg (seatA s'), .bool b]) ∧ ∀ (W : World) (d : St), SeatR W s d → SeatR W s' (F d)) ∧ Ext w w'
theorem upD_L (d : St) (term : Int) : (upD d term).L = d.L := by unfold upD downD; split <;> rfl

theorem cells_ext {w w1 : World} {B : Nat} {cs : Array Value} {T : TypeId} (h : w.heap[B]? = some (.cells cs T (0, 0))) (hx : Ext w w1) : (∀ i, w1.cell? ⟨B, i, none⟩ = cs[i]?) ∧ (∀ i, w1.frozen? ⟨B, i, none⟩ = false) := by
  have h1 : w1.heap[B]? = some (.cells cs T (0, 0)) := by rw [hx.block B (Array.getElem?_eq_some_iff.1 h).1, h]
  exact ⟨fun i => cell_of_row _ _ _ _ _ _ h1, fun i => by simp [World.frozen?, h1]⟩
theorem info_seat : (Try.prog.info? 25).map (·.size) = some 10 := by kernel_rfl
theorem seat_one (s : SeatV) : (seatA s).all (·.oneCell') = true := by simp [seatA, Value.oneCell']
/-- the world of a call of Ask: the seat, what it was asked with, and where the answer goes -/
structure AskW (w W : World) (s : SeatV) (term who last many : Int) : Prop where
  seat : W.heap[w.heap.size]? = some (.cells (seatA s) 25 (0, 0))
  term : W.heap[w.heap.size + 1]? = some (.cells #[.int .i64 term] 3 (0, 0))
  who : W.heap[w.heap.size + 1 + 1]? = some (.cells #[.int .i64 who] 3 (0, 0))
  last : W.heap[w.heap.size + 1 + 1 + 1]? = some (.cells #[.int .i64 last] 3 (0, 0))
  many : W.heap[w.heap.size + 1 + 1 + 1 + 1]? = some (.cells #[.int .i64 many] 3 (0, 0))
  res : W.heap[w.heap.size + 1 + 1 + 1 + 1 + 1]? = some (.cells #[.int .i64 0, .slice none 0 0, .int .i64 0, .int .i64 0, .int .i64 0, .slice none 0 0, .int .i64 0, .slice none 0 0, .slice none 0 0, .slice none 0 0] 25 (0, 0))
  ext : Ext w W
theorem heap_ext {w w1 : World} {B : Nat} {o : Obj} (h : w.heap[B]? = some o) (hx : Ext w w1) : w1.heap[B]? = some o := by rw [hx.block B (Array.getElem?_eq_some_iff.1 h).1, h]
theorem AskW.later {w W W' : World} {s : SeatV} {term who last many : Int} (h : AskW w W s term who last many) (hx : Ext W W') : AskW w W' s term who last many :=
  ⟨heap_ext h.seat hx, heap_ext h.term hx, heap_ext h.who hx, heap_ext h.last hx, heap_ext h.many hx, heap_ext h.res hx, Ext.trans h.ext hx⟩
theorem AskW.start (w : World) (s : SeatV) (term who last many : Int) : AskW w ((((((w.alloc (.cells #[.int .i64 s.i, .slice s.P.p s.P.n s.P.c, .int .i64 s.t, .int .i64 s.v, .int .i64 s.r, .slice s.L.p s.L.n s.L.c, .int .i64 s.c, .slice s.V.p s.V.n s.V.c, .slice s.N.p s.N.n s.N.c, .slice s.M.p s.M.n s.M.c] 25)).alloc (.cells #[.int .i64 term] 3)).alloc (.cells #[.int .i64 who] 3)).alloc (.cells #[.int .i64 last] 3)).alloc (.cells #[.int .i64 many] 3)).alloc (.cells #[.int .i64 0, .slice none 0 0, .int .i64 0, .int .i64 0, .int .i64 0, .slice none 0 0, .int .i64 0, .slice none 0 0, .slice none 0 0, .slice none 0 0] 25)) s term who last many := by
  refine ⟨?_, ?_, ?_, ?_, ?_, ?_, ?_⟩
  · refine heap_ext (w := (w.alloc (.cells #[.int .i64 s.i, .slice s.P.p s.P.n s.P.c, .int .i64 s.t, .int .i64 s.v, .int .i64 s.r, .slice s.L.p s.L.n s.L.c, .int .i64 s.c, .slice s.V.p s.V.n s.V.c, .slice s.N.p s.N.n s.N.c, .slice s.M.p s.M.n s.M.c] 25))) (by have := heap_alloc_new w (.cells #[.int .i64 s.i, .slice s.P.p s.P.n s.P.c, .int .i64 s.t, .int .i64 s.v, .int .i64 s.r, .slice s.L.p s.L.n s.L.c, .int .i64 s.c, .slice s.V.p s.V.n s.V.c, .slice s.N.p s.N.n s.N.c, .slice s.M.p s.M.n s.M.c] 25); simpa [seatA] using this) ?_
    (unfold Ext; repeat (first | exact Below.refl _ _ | assumption | refine Below.drew ?_ | refine below_drewN ?_ _ | refine Below.alloc ?_ (by first | exact Nat.le_refl _ | (simp; done) | (simp; omega) | omega) _ | refine Below.setCell ?_ (by first | exact Nat.le_refl _ | (simp; done) | (simp; omega) | omega) _))
  · refine heap_ext (w := ((w.alloc (.cells #[.int .i64 s.i, .slice s.P.p s.P.n s.P.c, .int .i64 s.t, .int .i64 s.v, .int .i64 s.r, .slice s.L.p s.L.n s.L.c, .int .i64 s.c, .slice s.V.p s.V.n s.V.c, .slice s.N.p s.N.n s.N.c, .slice s.M.p s.M.n s.M.c] 25)).alloc (.cells #[.int .i64 term] 3))) (by have := heap_alloc_new (w.alloc (.cells #[.int .i64 s.i, .slice s.P.p s.P.n s.P.c, .int .i64 s.t, .int .i64 s.v, .int .i64 s.r, .slice s.L.p s.L.n s.L.c, .int .i64 s.c, .slice s.V.p s.V.n s.V.c, .slice s.N.p s.N.n s.N.c, .slice s.M.p s.M.n s.M.c] 25)) (.cells #[.int .i64 term] 3); simpa [seatA] using this) ?_
    (unfold Ext; repeat (first | exact Below.refl _ _ | assumption | refine Below.drew ?_ | refine below_drewN ?_ _ | refine Below.alloc ?_ (by first | exact Nat.le_refl _ | (simp; done) | (simp; omega) | omega) _ | refine Below.setCell ?_ (by first | exact Nat.le_refl _ | (simp; done) | (simp; omega) | omega) _))
  · refine heap_ext (w := (((w.alloc (.cells #[.int .i64 s.i, .slice s.P.p s.P.n s.P.c, .int .i64 s.t, .int .i64 s.v, .int .i64 s.r, .slice s.L.p s.L.n s.L.c, .int .i64 s.c, .slice s.V.p s.V.n s.V.c, .slice s.N.p s.N.n s.N.c, .slice s.M.p s.M.n s.M.c] 25)).alloc (.cells #[.int .i64 term] 3)).alloc (.cells #[.int .i64 who] 3))) (by have := heap_alloc_new ((w.alloc (.cells #[.int .i64 s.i, .slice s.P.p s.P.n s.P.c, .int .i64 s.t, .int .i64 s.v, .int .i64 s.r, .slice s.L.p s.L.n s.L.c, .int .i64 s.c, .slice s.V.p s.V.n s.V.c, .slice s.N.p s.N.n s.N.c, .slice s.M.p s.M.n s.M.c] 25)).alloc (.cells #[.int .i64 term] 3)) (.cells #[.int .i64 who] 3); simpa [seatA] using this) ?_
    (unfold Ext; repeat (first | exact Below.refl _ _ | assumption | refine Below.drew ?_ | refine below_drewN ?_ _ | refine Below.alloc ?_ (by first | exact Nat.le_refl _ | (simp; done) | (simp; omega) | omega) _ | refine Below.setCell ?_ (by first | exact Nat.le_refl _ | (simp; done) | (simp; omega) | omega) _))
  · refine heap_ext (w := ((((w.alloc (.cells #[.int .i64 s.i, .slice s.P.p s.P.n s.P.c, .int .i64 s.t, .int .i64 s.v, .int .i64 s.r, .slice s.L.p s.L.n s.L.c, .int .i64 s.c, .slice s.V.p s.V.n s.V.c, .slice s.N.p s.N.n s.N.c, .slice s.M.p s.M.n s.M.c] 25)).alloc (.cells #[.int .i64 term] 3)).alloc (.cells #[.int .i64 who] 3)).alloc (.cells #[.int .i64 last] 3))) (by have := heap_alloc_new (((w.alloc (.cells #[.int .i64 s.i, .slice s.P.p s.P.n s.P.c, .int .i64 s.t, .int .i64 s.v, .int .i64 s.r, .slice s.L.p s.L.n s.L.c, .int .i64 s.c, .slice s.V.p s.V.n s.V.c, .slice s.N.p s.N.n s.N.c, .slice s.M.p s.M.n s.M.c] 25)).alloc (.cells #[.int .i64 term] 3)).alloc (.cells #[.int .i64 who] 3)) (.cells #[.int .i64 last] 3); simpa [seatA] using this) ?_
    (unfold Ext; repeat (first | exact Below.refl _ _ | assumption | refine Below.drew ?_ | refine below_drewN ?_ _ | refine Below.alloc ?_ (by first | exact Nat.le_refl _ | (simp; done) | (simp; omega) | omega) _ | refine Below.setCell ?_ (by first | exact Nat.le_refl _ | (simp; done) | (simp; omega) | omega) _))
  · refine heap_ext (w := (((((w.alloc (.cells #[.int .i64 s.i, .slice s.P.p s.P.n s.P.c, .int .i64 s.t, .int .i64 s.v, .int .i64 s.r, .slice s.L.p s.L.n s.L.c, .int .i64 s.c, .slice s.V.p s.V.n s.V.c, .slice s.N.p s.N.n s.N.c, .slice s.M.p s.M.n s.M.c] 25)).alloc (.cells #[.int .i64 term] 3)).alloc (.cells #[.int .i64 who] 3)).alloc (.cells #[.int .i64 last] 3)).alloc (.cells #[.int .i64 many] 3))) (by have := heap_alloc_new ((((w.alloc (.cells #[.int .i64 s.i, .slice s.P.p s.P.n s.P.c, .int .i64 s.t, .int .i64 s.v, .int .i64 s.r, .slice s.L.p s.L.n s.L.c, .int .i64 s.c, .slice s.V.p s.V.n s.V.c, .slice s.N.p s.N.n s.N.c, .slice s.M.p s.M.n s.M.c] 25)).alloc (.cells #[.int .i64 term] 3)).alloc (.cells #[.int .i64 who] 3)).alloc (.cells #[.int .i64 last] 3)) (.cells #[.int .i64 many] 3); simpa [seatA] using this) ?_
    (unfold Ext; repeat (first | exact Below.refl _ _ | assumption | refine Below.drew ?_ | refine below_drewN ?_ _ | refine Below.alloc ?_ (by first | exact Nat.le_refl _ | (simp; done) | (simp; omega) | omega) _ | refine Below.setCell ?_ (by first | exact Nat.le_refl _ | (simp; done) | (simp; omega) | omega) _))
  · refine heap_ext (w := ((((((w.alloc (.cells #[.int .i64 s.i, .slice s.P.p s.P.n s.P.c, .int .i64 s.t, .int .i64 s.v, .int .i64 s.r, .slice s.L.p s.L.n s.L.c, .int .i64 s.c, .slice s.V.p s.V.n s.V.c, .slice s.N.p s.N.n s.N.c, .slice s.M.p s.M.n s.M.c] 25)).alloc (.cells #[.int .i64 term] 3)).alloc (.cells #[.int .i64 who] 3)).alloc (.cells #[.int .i64 last] 3)).alloc (.cells #[.int .i64 many] 3)).alloc (.cells #[.int .i64 0, .slice none 0 0, .int .i64 0, .int .i64 0, .int .i64 0, .slice none 0 0, .int .i64 0, .slice none 0 0, .slice none 0 0, .slice none 0 0] 25))) (by have := heap_alloc_new (((((w.alloc (.cells #[.int .i64 s.i, .slice s.P.p s.P.n s.P.c, .int .i64 s.t, .int .i64 s.v, .int .i64 s.r, .slice s.L.p s.L.n s.L.c, .int .i64 s.c, .slice s.V.p s.V.n s.V.c, .slice s.N.p s.N.n s.N.c, .slice s.M.p s.M.n s.M.c] 25)).alloc (.cells #[.int .i64 term] 3)).alloc (.cells #[.int .i64 who] 3)).alloc (.cells #[.int .i64 last] 3)).alloc (.cells #[.int .i64 many] 3)) (.cells #[.int .i64 0, .slice none 0 0, .int .i64 0, .int .i64 0, .int .i64 0, .slice none 0 0, .int .i64 0, .slice none 0 0, .slice none 0 0, .slice none 0 0] 25); simpa [seatA] using this) ?_
    (unfold Ext; repeat (first | exact Below.refl _ _ | assumption | refine Below.drew ?_ | refine below_drewN ?_ _ | refine Below.alloc ?_ (by first | exact Nat.le_refl _ | (simp; done) | (simp; omega) | omega) _ | refine Below.setCell ?_ (by first | exact Nat.le_refl _ | (simp; done) | (simp; omega) | omega) _))
  · (unfold Ext; repeat (first | exact Below.refl _ _ | assumption | refine Below.drew ?_ | refine below_drewN ?_ _ | refine Below.alloc ?_ (by first | exact Nat.le_refl _ | (simp; done) | (simp; omega) | omega) _ | refine Below.setCell ?_ (by first | exact Nat.le_refl _ | (simp; done) | (simp; omega) | omega) _))
/-- a whole seat is laid into the seat's box -/
theorem AskW.lay {w W : World} {s s1 : SeatV} {term who last many : Int} (h : AskW w W s term who last many) : AskW w (W.setRow w.heap.size (seatA s1)) s1 term who last many := by
  refine ⟨setRow_heap _ _ _ _ _ _ h.seat, ?_, ?_, ?_, ?_, ?_, ext_setRow h.ext (Nat.le_refl _) _⟩
  · rw [setRow_other _ _ _ _ (by omega)]; exact h.term
  · rw [setRow_other _ _ _ _ (by omega)]; exact h.who
  · rw [setRow_other _ _ _ _ (by omega)]; exact h.last
  · rw [setRow_other _ _ _ _ (by omega)]; exact h.many
  · rw [setRow_other _ _ _ _ (by omega)]; exact h.res

/-! the three questions -/
set_option maxHeartbeats 1000000 in
theorem q1_any (w W : World) (s : SeatV) (term who last many : Int) (h : AskW w W s term who last many) :
    Calls Try.prog 31 #[.pointer (some ⟨w.heap.size + 1, 0, none⟩), .pointer (some ⟨w.heap.size, 0, none⟩)] W fun e w' => e = .returned (.bool (term == s.t)) ∧ W = w' := by
  have c1 : W.cell? ⟨w.heap.size + 1, 0, none⟩ = some (.int .i64 term) := cell_of_row _ _ 0 _ _ _ h.term
  have c2 : W.cell? ⟨w.heap.size, 2, none⟩ = some (.int .i64 s.t) := cell_of_row _ _ 2 _ _ _ h.seat
  clear h
  go_enter Try.func31, Try.ntmps31
  go_wp2
  go_ret
  exact ⟨rfl, rfl⟩
set_option maxHeartbeats 1000000 in
theorem q2_any (w W : World) (s : SeatV) (term who last many : Int) (h : AskW w W s term who last many) :
    Calls Try.prog 32 #[.pointer (some ⟨w.heap.size, 0, none⟩), .pointer (some ⟨w.heap.size + 1 + 1, 0, none⟩)] W fun e w' => e = .returned (.bool (decide (s.v = -1 ∨ s.v = who))) ∧ W = w' := by
  have c1 : W.cell? ⟨w.heap.size + 1 + 1, 0, none⟩ = some (.int .i64 who) := cell_of_row _ _ 0 _ _ _ h.who
  have c2 : W.cell? ⟨w.heap.size, 3, none⟩ = some (.int .i64 s.v) := cell_of_row _ _ 3 _ _ _ h.seat
  clear h
  by_cases h1 : s.v = -1
  · have e1 : (s.v == -1) = true := by simp [h1]
    have H1 := Lib.hid h1
    clear h1
    go_enter Try.func32, Try.ntmps32
    go_wp2
    go_ret
    exact ⟨ret_bool (decide_eq_true (.inl H1.out)).symm, rfl⟩
  · have e1 : (s.v == -1) = false := by simp [h1]
    have H1 := Lib.hid h1
    clear h1
    go_enter Try.func32, Try.ntmps32
    go_wp2
    go_ret
    exact ⟨ret_bool (by
      by_cases h2 : s.v = who
      · rw [decide_eq_true (.inr h2)]; simp [h2]
      · rw [decide_eq_false (fun h => h.elim H1.out h2)]; simp [h2]), rfl⟩
set_option maxHeartbeats 1000000 in
theorem q3_any (w W : World) (s : SeatV) (l : List Ent) (term who last many : Int) (h : AskW w W s term who last many) (hl : LEnt.Row W s.L.p s.L.n l) :
    Calls Try.prog 33 #[.pointer (some ⟨w.heap.size, 0, none⟩), .pointer (some ⟨w.heap.size + 1 + 1 + 1, 0, none⟩), .pointer (some ⟨w.heap.size + 1 + 1 + 1 + 1, 0, none⟩)] W fun e w' => e = .returned (.bool (newerB l last many)) ∧ W = w' := by
  have c1 : W.cell? ⟨w.heap.size + 1 + 1 + 1, 0, none⟩ = some (.int .i64 last) := cell_of_row _ _ 0 _ _ _ h.last
  have c3 : W.cell? ⟨w.heap.size + 1 + 1 + 1 + 1, 0, none⟩ = some (.int .i64 many) := cell_of_row _ _ 0 _ _ _ h.many
  have c2 : W.cell? ⟨w.heap.size, 5, none⟩ = some (.slice s.L.p s.L.n s.L.c) := cell_of_row _ _ 5 _ _ _ h.seat
  have HC := Lib.hid (newer_any s.L.p s.L.n s.L.c l W hl last many)
  clear h hl
  generalize newerB l last many = B at HC ⊢
  go_enter Try.func33, Try.ntmps33
  go_wp2_with fail
  refine HC.out.mono ?_
  rintro e w' ⟨rfl, rfl⟩
  go_wp2
  go_ret
  exact ⟨rfl, rfl⟩

def StepsR (b1 b2 b3 : Bool) (i : Value) : Prop := ∃ k : Nat, i = .int .i64 k ∧ k ≤ 3 ∧ Hid ((0 < k → b1 = true) ∧ (1 < k → b2 = true) ∧ (2 < k → b3 = true))

set_option maxRecDepth 100000 in
set_option maxHeartbeats 8000000 in
theorem ask_up (s : SeatV) (d : St) (w : World) (h : SeatR w s d) (term who last many : Int) (hlt : d.t < term) :
    Calls Try.prog 21 #[.agg (seatA s), .int .i64 term, .int .i64 who, .int .i64 last, .int .i64 many] w fun e w' => RetAsk w s (askB d term who last many) (fun d' => askD d' (askB d term who last many) term who) e w' := by
  have g1 : s.t < term := by rw [h.t]; exact hlt
  have H := Lib.hid h
  obtain ⟨d1, hd1⟩ : ∃ d1, downD d term = d1 := ⟨_, rfl⟩
  have HD1 : Hid (upD d term = d1) := Lib.hid (by unfold upD; rw [if_pos hlt]; exact hd1)
  have HDL : Hid (d1.L = d.L) := Lib.hid (by rw [← hd1]; rfl)
  have HD := Lib.hid (fun w' => down_any s w' term)
  have HA0 := Lib.hid (AskW.start w s term who last many)
  have HDD := Lib.hid hd1
  clear h hlt hd1
  unfold seatA at HD ⊢
  go_enter Try.func21, Try.ntmps21
  go_wp2_with fail
  refine (HD.out _).mono ?_
  rintro e w1 ⟨⟨s1, rfl, hs1⟩, hx1⟩
  have HA2 := Lib.hid (HA0.out.later hx1)
  have HG := Lib.hid HA2.out.seat
  have HTR0 := Lib.hid hs1
  have g2 : Hid (s.t < term) := Lib.hid g1
  have HTR : Hid (∀ (W : World) (d' : St), SeatR W s d' → SeatR W s1 (upD d' term)) := Lib.hid (fun W d' h => by
    have e0 : upD d' term = downD d' term := by unfold upD; rw [if_pos (by rw [← h.t]; exact g2.out)]
    rw [e0]; exact HTR0.out W d' h)
  have HSW : Hid (∀ W, Ext w W → SeatR W s1 d1) := Lib.hid (fun W hW => by rw [← HDD.out]; exact HTR0.out W d (H.out.ext hW))
  unfold seatA
  clear hs1 hx1 HD HA0
  have HA : Hid (AskW w (w1.setRow w.heap.size #[.int .i64 s1.i, .slice s1.P.p s1.P.n s1.P.c, .int .i64 s1.t, .int .i64 s1.v, .int .i64 s1.r, .slice s1.L.p s1.L.n s1.L.c, .int .i64 s1.c, .slice s1.V.p s1.V.n s1.V.c, .slice s1.N.p s1.N.n s1.N.c, .slice s1.M.p s1.M.n s1.M.c]) s1 term who last many) := Lib.hid HA2.out.lay
  go_wp2_with ((with_reducible refine wpList_store_row (o := ⟨none, .store 25 (.tmp 5) (.tmp 21), _, _, _, _⟩) ?_ 25 (.tmp 5) (.tmp 21) ?_ w.heap.size #[.int .i64 s1.i, .slice s1.P.p s1.P.n s1.P.c, .int .i64 s1.t, .int .i64 s1.v, .int .i64 s1.r, .slice s1.L.p s1.L.n s1.L.c, .int .i64 s1.c, .slice s1.V.p s1.V.n s1.V.c, .slice s1.N.p s1.N.n s1.N.c, .slice s1.M.p s1.M.n s1.M.c] ?_ ?_ 25 #[.int .i64 s.i, .slice s.P.p s.P.n s.P.c, .int .i64 s.t, .int .i64 s.v, .int .i64 s.r, .slice s.L.p s.L.n s.L.c, .int .i64 s.c, .slice s.V.p s.V.n s.V.c, .slice s.N.p s.N.n s.N.c, .slice s.M.p s.M.n s.M.c] ?_ ?_ ?_ ?_ ?_); (exact rfl); (exact rfl); (exact rfl); (exact rfl); (exact HG.out); (exact info_seat); (exact rfl); (exact seat_one s1); generalize w1.setRow w.heap.size #[.int .i64 s1.i, .slice s1.P.p s1.P.n s1.P.c, .int .i64 s1.t, .int .i64 s1.v, .int .i64 s1.r, .slice s1.L.p s1.L.n s1.L.c, .int .i64 s1.c, .slice s1.V.p s1.V.n s1.V.c, .slice s1.N.p s1.N.n s1.N.c, .slice s1.M.p s1.M.n s1.M.c] = W at HA ⊢)
  have HA1 := Lib.hid (HA.out.later (Ext.alloc W (.cells #[.func (.func 31) #[] #[.pointer (some ⟨w.heap.size + 1, 0, none⟩), .pointer (some ⟨w.heap.size, 0, none⟩)], .func (.func 32) #[] #[.pointer (some ⟨w.heap.size, 0, none⟩), .pointer (some ⟨w.heap.size + 1 + 1, 0, none⟩)], .func (.func 33) #[] #[.pointer (some ⟨w.heap.size, 0, none⟩), .pointer (some ⟨w.heap.size + 1 + 1 + 1, 0, none⟩), .pointer (some ⟨w.heap.size + 1 + 1 + 1 + 1, 0, none⟩)]] 27)))
  have HS1 := Lib.hid (HSW.out _ (Ext.trans HA.out.ext (Ext.alloc W (.cells #[.func (.func 31) #[] #[.pointer (some ⟨w.heap.size + 1, 0, none⟩), .pointer (some ⟨w.heap.size, 0, none⟩)], .func (.func 32) #[] #[.pointer (some ⟨w.heap.size, 0, none⟩), .pointer (some ⟨w.heap.size + 1 + 1, 0, none⟩)], .func (.func 33) #[] #[.pointer (some ⟨w.heap.size, 0, none⟩), .pointer (some ⟨w.heap.size + 1 + 1 + 1, 0, none⟩), .pointer (some ⟨w.heap.size + 1 + 1 + 1 + 1, 0, none⟩)]] 27))))
  have HFN := Lib.hid (fun i => cell_of_row _ _ i _ _ _ (heap_alloc_new W (.cells #[.func (.func 31) #[] #[.pointer (some ⟨w.heap.size + 1, 0, none⟩), .pointer (some ⟨w.heap.size, 0, none⟩)], .func (.func 32) #[] #[.pointer (some ⟨w.heap.size, 0, none⟩), .pointer (some ⟨w.heap.size + 1 + 1, 0, none⟩)], .func (.func 33) #[] #[.pointer (some ⟨w.heap.size, 0, none⟩), .pointer (some ⟨w.heap.size + 1 + 1 + 1, 0, none⟩), .pointer (some ⟨w.heap.size + 1 + 1 + 1 + 1, 0, none⟩)]] 27)))
  have hfn0 := HFN.out 0
  have hfn1 := HFN.out 1
  have hfn2 := HFN.out 2
  clear HFN
  go_wp2
  generalize (W.alloc (.cells #[.func (.func 31) #[] #[.pointer (some ⟨w.heap.size + 1, 0, none⟩), .pointer (some ⟨w.heap.size, 0, none⟩)], .func (.func 32) #[] #[.pointer (some ⟨w.heap.size, 0, none⟩), .pointer (some ⟨w.heap.size + 1 + 1, 0, none⟩)], .func (.func 33) #[] #[.pointer (some ⟨w.heap.size, 0, none⟩), .pointer (some ⟨w.heap.size + 1 + 1 + 1, 0, none⟩), .pointer (some ⟨w.heap.size + 1 + 1 + 1 + 1, 0, none⟩)]] 27)) = W1 at HA1 HS1 hfn0 hfn1 hfn2 ⊢
  have HSL : Hid (LEnt.Row W1 s1.L.p s1.L.n d1.L) := Lib.hid HS1.out.L.1
  obtain ⟨b1, hb1⟩ : ∃ b1, (term == s1.t) = b1 := ⟨_, rfl⟩
  obtain ⟨b2, hb2⟩ : ∃ b2, decide (s1.v = -1 ∨ s1.v = who) = b2 := ⟨_, rfl⟩
  obtain ⟨b3, hb3⟩ : ∃ b3, newerB d1.L last many = b3 := ⟨_, rfl⟩
  have HB1 := Lib.hid hb1
  have HB2 := Lib.hid hb2
  have HB3 := Lib.hid hb3
  clear hb1 hb2 hb3
  have HASK : Hid (askB d term who last many = (b1 && (b2 && b3))) := Lib.hid (by
    unfold askB
    rw [HD1.out, ← HB1.out, ← HB2.out, ← HB3.out, HS1.out.t, HS1.out.v, HDL.out]
    first
      | rfl
      | (by_cases e : term = d1.t <;> simp [e]))
  have ci : W1.cell? ⟨w.heap.size, 0, none⟩ = some (.int .i64 s1.i) := cell_of_row _ _ 0 _ _ _ HA1.out.seat
  have cP : W1.cell? ⟨w.heap.size, 1, none⟩ = some (.slice s1.P.p s1.P.n s1.P.c) := cell_of_row _ _ 1 _ _ _ HA1.out.seat
  have ct : W1.cell? ⟨w.heap.size, 2, none⟩ = some (.int .i64 s1.t) := cell_of_row _ _ 2 _ _ _ HA1.out.seat
  have cv : W1.cell? ⟨w.heap.size, 3, none⟩ = some (.int .i64 s1.v) := cell_of_row _ _ 3 _ _ _ HA1.out.seat
  have cr : W1.cell? ⟨w.heap.size, 4, none⟩ = some (.int .i64 s1.r) := cell_of_row _ _ 4 _ _ _ HA1.out.seat
  have cL : W1.cell? ⟨w.heap.size, 5, none⟩ = some (.slice s1.L.p s1.L.n s1.L.c) := cell_of_row _ _ 5 _ _ _ HA1.out.seat
  have cc : W1.cell? ⟨w.heap.size, 6, none⟩ = some (.int .i64 s1.c) := cell_of_row _ _ 6 _ _ _ HA1.out.seat
  have cV : W1.cell? ⟨w.heap.size, 7, none⟩ = some (.slice s1.V.p s1.V.n s1.V.c) := cell_of_row _ _ 7 _ _ _ HA1.out.seat
  have cN : W1.cell? ⟨w.heap.size, 8, none⟩ = some (.slice s1.N.p s1.N.n s1.N.c) := cell_of_row _ _ 8 _ _ _ HA1.out.seat
  have cM : W1.cell? ⟨w.heap.size, 9, none⟩ = some (.slice s1.M.p s1.M.n s1.M.c) := cell_of_row _ _ 9 _ _ _ HA1.out.seat
  have fv : W1.frozen? ⟨w.heap.size, 3, none⟩ = false := (cells_ext HA1.out.seat (Ext.refl _)).2 3
  have cw : W1.cell? ⟨w.heap.size + 1 + 1, 0, none⟩ = some (.int .i64 who) := cell_of_row _ _ 0 _ _ _ HA1.out.who
  go_loop [28] (fun i => StepsR b1 b2 b3 i) (fun i => 3 - (intOf i).toNat)
  case atStart => exact ⟨0, rfl, by omega, Lib.hid ⟨fun h => by omega, fun h => by omega, fun h => by omega⟩⟩
  case round =>
    obtain ⟨k, rfl, hk, HE⟩ := hrel
    have h3 : k = 0 ∨ k = 1 ∨ k = 2 ∨ k = 3 := by omega
    rcases h3 with rfl | rfl | rfl | rfl
    · go_wp2_with fail
      refine (q1_any w W1 s1 term who last many HA1.out).mono ?_
      rintro e w' ⟨rfl, rfl⟩
      rw [HB1.out]
      cases b1
      · clear HE
        have HRES := Lib.hid HA1.out.res
        go_wp2_with (((with_reducible refine wpList_store_row (o := ⟨none, .store 25 (.tmp 10) (.tmp 35), _, _, _, _⟩) ?_ 25 (.tmp 10) (.tmp 35) ?_ (w.heap.size + 1 + 1 + 1 + 1 + 1) #[.int .i64 s1.i, .slice s1.P.p s1.P.n s1.P.c, .int .i64 s1.t, .int .i64 s1.v, .int .i64 s1.r, .slice s1.L.p s1.L.n s1.L.c, .int .i64 s1.c, .slice s1.V.p s1.V.n s1.V.c, .slice s1.N.p s1.N.n s1.N.c, .slice s1.M.p s1.M.n s1.M.c] ?_ ?_ 25 #[.int .i64 0, .slice none 0 0, .int .i64 0, .int .i64 0, .int .i64 0, .slice none 0 0, .int .i64 0, .slice none 0 0, .slice none 0 0, .slice none 0 0] ?_ ?_ ?_ ?_ ?_); (exact rfl); (exact rfl); (exact rfl); (exact rfl); (exact HRES.out); (exact info_seat); (exact rfl); (exact seat_one s1)))
        have HR2 := Lib.hid (setRow_heap _ _ _ #[.int .i64 s1.i, .slice s1.P.p s1.P.n s1.P.c, .int .i64 s1.t, .int .i64 s1.v, .int .i64 s1.r, .slice s1.L.p s1.L.n s1.L.c, .int .i64 s1.c, .slice s1.V.p s1.V.n s1.V.c, .slice s1.N.p s1.N.n s1.N.c, .slice s1.M.p s1.M.n s1.M.c] _ _ HRES.out)
        have X2 : Ext w (W1.setRow (w.heap.size + 1 + 1 + 1 + 1 + 1) #[.int .i64 s1.i, .slice s1.P.p s1.P.n s1.P.c, .int .i64 s1.t, .int .i64 s1.v, .int .i64 s1.r, .slice s1.L.p s1.L.n s1.L.c, .int .i64 s1.c, .slice s1.V.p s1.V.n s1.V.c, .slice s1.N.p s1.N.n s1.N.c, .slice s1.M.p s1.M.n s1.M.c]) := ext_setRow HA1.out.ext (by omega) _
        generalize W1.setRow (w.heap.size + 1 + 1 + 1 + 1 + 1) #[.int .i64 s1.i, .slice s1.P.p s1.P.n s1.P.c, .int .i64 s1.t, .int .i64 s1.v, .int .i64 s1.r, .slice s1.L.p s1.L.n s1.L.c, .int .i64 s1.c, .slice s1.V.p s1.V.n s1.V.c, .slice s1.N.p s1.N.n s1.N.c, .slice s1.M.p s1.M.n s1.M.c] = W2 at HR2 X2 ⊢
        have ri : W2.cell? ⟨w.heap.size + 1 + 1 + 1 + 1 + 1, 0, none⟩ = some (.int .i64 s1.i) := cell_of_row _ _ 0 _ _ _ HR2.out
        have rP : W2.cell? ⟨w.heap.size + 1 + 1 + 1 + 1 + 1, 1, none⟩ = some (.slice s1.P.p s1.P.n s1.P.c) := cell_of_row _ _ 1 _ _ _ HR2.out
        have rt : W2.cell? ⟨w.heap.size + 1 + 1 + 1 + 1 + 1, 2, none⟩ = some (.int .i64 s1.t) := cell_of_row _ _ 2 _ _ _ HR2.out
        have rv : W2.cell? ⟨w.heap.size + 1 + 1 + 1 + 1 + 1, 3, none⟩ = some (.int .i64 s1.v) := cell_of_row _ _ 3 _ _ _ HR2.out
        have rr : W2.cell? ⟨w.heap.size + 1 + 1 + 1 + 1 + 1, 4, none⟩ = some (.int .i64 s1.r) := cell_of_row _ _ 4 _ _ _ HR2.out
        have rL : W2.cell? ⟨w.heap.size + 1 + 1 + 1 + 1 + 1, 5, none⟩ = some (.slice s1.L.p s1.L.n s1.L.c) := cell_of_row _ _ 5 _ _ _ HR2.out
        have rc : W2.cell? ⟨w.heap.size + 1 + 1 + 1 + 1 + 1, 6, none⟩ = some (.int .i64 s1.c) := cell_of_row _ _ 6 _ _ _ HR2.out
        have rV : W2.cell? ⟨w.heap.size + 1 + 1 + 1 + 1 + 1, 7, none⟩ = some (.slice s1.V.p s1.V.n s1.V.c) := cell_of_row _ _ 7 _ _ _ HR2.out
        have rN : W2.cell? ⟨w.heap.size + 1 + 1 + 1 + 1 + 1, 8, none⟩ = some (.slice s1.N.p s1.N.n s1.N.c) := cell_of_row _ _ 8 _ _ _ HR2.out
        have rM : W2.cell? ⟨w.heap.size + 1 + 1 + 1 + 1 + 1, 9, none⟩ = some (.slice s1.M.p s1.M.n s1.M.c) := cell_of_row _ _ 9 _ _ _ HR2.out
        go_wp2
        have HBF : Hid (askB d term who last many = false) := Lib.hid (by rw [HASK.out]; simp)
        rw [HBF.out]
        refine bodyPost_ret (v := .tuple #[.agg (seatA s1), .bool false]) (by simp [results, Try.results21, go_sem, seatA, ri, rP, rt, rv, rr, rL, rc, rV, rN, rM]) rfl ⟨⟨s1, rfl, fun W d' h => ?_⟩, X2⟩
        have h2 := HTR.out W d' h
        have e0 : askD d' false term who = upD d' term := rfl
        show SeatR W s1 (askD d' false term who)
        rw [e0]; exact h2
      · go_wp2
        go_round
        case rel => exact ⟨1, rfl, by omega, Lib.hid ⟨fun _ => rfl, fun h => by omega, fun h => by omega⟩⟩
        case measure => simp [intOf]
    · go_wp2_with fail
      refine (q2_any w W1 s1 term who last many HA1.out).mono ?_
      rintro e w' ⟨rfl, rfl⟩
      rw [HB2.out]
      cases b2
      · clear HE
        have HRES := Lib.hid HA1.out.res
        go_wp2_with (((with_reducible refine wpList_store_row (o := ⟨none, .store 25 (.tmp 10) (.tmp 35), _, _, _, _⟩) ?_ 25 (.tmp 10) (.tmp 35) ?_ (w.heap.size + 1 + 1 + 1 + 1 + 1) #[.int .i64 s1.i, .slice s1.P.p s1.P.n s1.P.c, .int .i64 s1.t, .int .i64 s1.v, .int .i64 s1.r, .slice s1.L.p s1.L.n s1.L.c, .int .i64 s1.c, .slice s1.V.p s1.V.n s1.V.c, .slice s1.N.p s1.N.n s1.N.c, .slice s1.M.p s1.M.n s1.M.c] ?_ ?_ 25 #[.int .i64 0, .slice none 0 0, .int .i64 0, .int .i64 0, .int .i64 0, .slice none 0 0, .int .i64 0, .slice none 0 0, .slice none 0 0, .slice none 0 0] ?_ ?_ ?_ ?_ ?_); (exact rfl); (exact rfl); (exact rfl); (exact rfl); (exact HRES.out); (exact info_seat); (exact rfl); (exact seat_one s1)))
        have HR2 := Lib.hid (setRow_heap _ _ _ #[.int .i64 s1.i, .slice s1.P.p s1.P.n s1.P.c, .int .i64 s1.t, .int .i64 s1.v, .int .i64 s1.r, .slice s1.L.p s1.L.n s1.L.c, .int .i64 s1.c, .slice s1.V.p s1.V.n s1.V.c, .slice s1.N.p s1.N.n s1.N.c, .slice s1.M.p s1.M.n s1.M.c] _ _ HRES.out)
        have X2 : Ext w (W1.setRow (w.heap.size + 1 + 1 + 1 + 1 + 1) #[.int .i64 s1.i, .slice s1.P.p s1.P.n s1.P.c, .int .i64 s1.t, .int .i64 s1.v, .int .i64 s1.r, .slice s1.L.p s1.L.n s1.L.c, .int .i64 s1.c, .slice s1.V.p s1.V.n s1.V.c, .slice s1.N.p s1.N.n s1.N.c, .slice s1.M.p s1.M.n s1.M.c]) := ext_setRow HA1.out.ext (by omega) _
        generalize W1.setRow (w.heap.size + 1 + 1 + 1 + 1 + 1) #[.int .i64 s1.i, .slice s1.P.p s1.P.n s1.P.c, .int .i64 s1.t, .int .i64 s1.v, .int .i64 s1.r, .slice s1.L.p s1.L.n s1.L.c, .int .i64 s1.c, .slice s1.V.p s1.V.n s1.V.c, .slice s1.N.p s1.N.n s1.N.c, .slice s1.M.p s1.M.n s1.M.c] = W2 at HR2 X2 ⊢
        have ri : W2.cell? ⟨w.heap.size + 1 + 1 + 1 + 1 + 1, 0, none⟩ = some (.int .i64 s1.i) := cell_of_row _ _ 0 _ _ _ HR2.out
        have rP : W2.cell? ⟨w.heap.size + 1 + 1 + 1 + 1 + 1, 1, none⟩ = some (.slice s1.P.p s1.P.n s1.P.c) := cell_of_row _ _ 1 _ _ _ HR2.out
        have rt : W2.cell? ⟨w.heap.size + 1 + 1 + 1 + 1 + 1, 2, none⟩ = some (.int .i64 s1.t) := cell_of_row _ _ 2 _ _ _ HR2.out
        have rv : W2.cell? ⟨w.heap.size + 1 + 1 + 1 + 1 + 1, 3, none⟩ = some (.int .i64 s1.v) := cell_of_row _ _ 3 _ _ _ HR2.out
        have rr : W2.cell? ⟨w.heap.size + 1 + 1 + 1 + 1 + 1, 4, none⟩ = some (.int .i64 s1.r) := cell_of_row _ _ 4 _ _ _ HR2.out
        have rL : W2.cell? ⟨w.heap.size + 1 + 1 + 1 + 1 + 1, 5, none⟩ = some (.slice s1.L.p s1.L.n s1.L.c) := cell_of_row _ _ 5 _ _ _ HR2.out
        have rc : W2.cell? ⟨w.heap.size + 1 + 1 + 1 + 1 + 1, 6, none⟩ = some (.int .i64 s1.c) := cell_of_row _ _ 6 _ _ _ HR2.out
        have rV : W2.cell? ⟨w.heap.size + 1 + 1 + 1 + 1 + 1, 7, none⟩ = some (.slice s1.V.p s1.V.n s1.V.c) := cell_of_row _ _ 7 _ _ _ HR2.out
        have rN : W2.cell? ⟨w.heap.size + 1 + 1 + 1 + 1 + 1, 8, none⟩ = some (.slice s1.N.p s1.N.n s1.N.c) := cell_of_row _ _ 8 _ _ _ HR2.out
        have rM : W2.cell? ⟨w.heap.size + 1 + 1 + 1 + 1 + 1, 9, none⟩ = some (.slice s1.M.p s1.M.n s1.M.c) := cell_of_row _ _ 9 _ _ _ HR2.out
        go_wp2
        have HBF : Hid (askB d term who last many = false) := Lib.hid (by rw [HASK.out]; simp)
        rw [HBF.out]
        refine bodyPost_ret (v := .tuple #[.agg (seatA s1), .bool false]) (by simp [results, Try.results21, go_sem, seatA, ri, rP, rt, rv, rr, rL, rc, rV, rN, rM]) rfl ⟨⟨s1, rfl, fun W d' h => ?_⟩, X2⟩
        have h2 := HTR.out W d' h
        have e0 : askD d' false term who = upD d' term := rfl
        show SeatR W s1 (askD d' false term who)
        rw [e0]; exact h2
      · go_wp2
        go_round
        case rel => exact ⟨2, rfl, by omega, Lib.hid ⟨fun _ => HE.out.1 (by omega), fun _ => rfl, fun h => by omega⟩⟩
        case measure => simp [intOf]
    · go_wp2_with fail
      refine (q3_any w W1 s1 d1.L term who last many HA1.out HSL.out).mono ?_
      rintro e w' ⟨rfl, rfl⟩
      rw [HB3.out]
      cases b3
      · clear HE
        have HRES := Lib.hid HA1.out.res
        go_wp2_with (((with_reducible refine wpList_store_row (o := ⟨none, .store 25 (.tmp 10) (.tmp 35), _, _, _, _⟩) ?_ 25 (.tmp 10) (.tmp 35) ?_ (w.heap.size + 1 + 1 + 1 + 1 + 1) #[.int .i64 s1.i, .slice s1.P.p s1.P.n s1.P.c, .int .i64 s1.t, .int .i64 s1.v, .int .i64 s1.r, .slice s1.L.p s1.L.n s1.L.c, .int .i64 s1.c, .slice s1.V.p s1.V.n s1.V.c, .slice s1.N.p s1.N.n s1.N.c, .slice s1.M.p s1.M.n s1.M.c] ?_ ?_ 25 #[.int .i64 0, .slice none 0 0, .int .i64 0, .int .i64 0, .int .i64 0, .slice none 0 0, .int .i64 0, .slice none 0 0, .slice none 0 0, .slice none 0 0] ?_ ?_ ?_ ?_ ?_); (exact rfl); (exact rfl); (exact rfl); (exact rfl); (exact HRES.out); (exact info_seat); (exact rfl); (exact seat_one s1)))
        have HR2 := Lib.hid (setRow_heap _ _ _ #[.int .i64 s1.i, .slice s1.P.p s1.P.n s1.P.c, .int .i64 s1.t, .int .i64 s1.v, .int .i64 s1.r, .slice s1.L.p s1.L.n s1.L.c, .int .i64 s1.c, .slice s1.V.p s1.V.n s1.V.c, .slice s1.N.p s1.N.n s1.N.c, .slice s1.M.p s1.M.n s1.M.c] _ _ HRES.out)
        have X2 : Ext w (W1.setRow (w.heap.size + 1 + 1 + 1 + 1 + 1) #[.int .i64 s1.i, .slice s1.P.p s1.P.n s1.P.c, .int .i64 s1.t, .int .i64 s1.v, .int .i64 s1.r, .slice s1.L.p s1.L.n s1.L.c, .int .i64 s1.c, .slice s1.V.p s1.V.n s1.V.c, .slice s1.N.p s1.N.n s1.N.c, .slice s1.M.p s1.M.n s1.M.c]) := ext_setRow HA1.out.ext (by omega) _
        generalize W1.setRow (w.heap.size + 1 + 1 + 1 + 1 + 1) #[.int .i64 s1.i, .slice s1.P.p s1.P.n s1.P.c, .int .i64 s1.t, .int .i64 s1.v, .int .i64 s1.r, .slice s1.L.p s1.L.n s1.L.c, .int .i64 s1.c, .slice s1.V.p s1.V.n s1.V.c, .slice s1.N.p s1.N.n s1.N.c, .slice s1.M.p s1.M.n s1.M.c] = W2 at HR2 X2 ⊢
        have ri : W2.cell? ⟨w.heap.size + 1 + 1 + 1 + 1 + 1, 0, none⟩ = some (.int .i64 s1.i) := cell_of_row _ _ 0 _ _ _ HR2.out
        have rP : W2.cell? ⟨w.heap.size + 1 + 1 + 1 + 1 + 1, 1, none⟩ = some (.slice s1.P.p s1.P.n s1.P.c) := cell_of_row _ _ 1 _ _ _ HR2.out
        have rt : W2.cell? ⟨w.heap.size + 1 + 1 + 1 + 1 + 1, 2, none⟩ = some (.int .i64 s1.t) := cell_of_row _ _ 2 _ _ _ HR2.out
        have rv : W2.cell? ⟨w.heap.size + 1 + 1 + 1 + 1 + 1, 3, none⟩ = some (.int .i64 s1.v) := cell_of_row _ _ 3 _ _ _ HR2.out
        have rr : W2.cell? ⟨w.heap.size + 1 + 1 + 1 + 1 + 1, 4, none⟩ = some (.int .i64 s1.r) := cell_of_row _ _ 4 _ _ _ HR2.out
        have rL : W2.cell? ⟨w.heap.size + 1 + 1 + 1 + 1 + 1, 5, none⟩ = some (.slice s1.L.p s1.L.n s1.L.c) := cell_of_row _ _ 5 _ _ _ HR2.out
        have rc : W2.cell? ⟨w.heap.size + 1 + 1 + 1 + 1 + 1, 6, none⟩ = some (.int .i64 s1.c) := cell_of_row _ _ 6 _ _ _ HR2.out
        have rV : W2.cell? ⟨w.heap.size + 1 + 1 + 1 + 1 + 1, 7, none⟩ = some (.slice s1.V.p s1.V.n s1.V.c) := cell_of_row _ _ 7 _ _ _ HR2.out
        have rN : W2.cell? ⟨w.heap.size + 1 + 1 + 1 + 1 + 1, 8, none⟩ = some (.slice s1.N.p s1.N.n s1.N.c) := cell_of_row _ _ 8 _ _ _ HR2.out
        have rM : W2.cell? ⟨w.heap.size + 1 + 1 + 1 + 1 + 1, 9, none⟩ = some (.slice s1.M.p s1.M.n s1.M.c) := cell_of_row _ _ 9 _ _ _ HR2.out
        go_wp2
        have HBF : Hid (askB d term who last many = false) := Lib.hid (by rw [HASK.out]; simp)
        rw [HBF.out]
        refine bodyPost_ret (v := .tuple #[.agg (seatA s1), .bool false]) (by simp [results, Try.results21, go_sem, seatA, ri, rP, rt, rv, rr, rL, rc, rV, rN, rM]) rfl ⟨⟨s1, rfl, fun W d' h => ?_⟩, X2⟩
        have h2 := HTR.out W d' h
        have e0 : askD d' false term who = upD d' term := rfl
        show SeatR W s1 (askD d' false term who)
        rw [e0]; exact h2
      · go_wp2
        go_round
        case rel => exact ⟨3, rfl, by omega, Lib.hid ⟨fun _ => HE.out.1 (by omega), fun _ => HE.out.2.1 (by omega), fun _ => rfl⟩⟩
        case measure => simp [intOf]
    · have HRES : Hid ((W1.setCell ⟨w.heap.size, 3, none⟩ (.int .i64 who)).heap[w.heap.size + 1 + 1 + 1 + 1 + 1]? = some (.cells #[.int .i64 0, .slice none 0 0, .int .i64 0, .int .i64 0, .int .i64 0, .slice none 0 0, .int .i64 0, .slice none 0 0, .slice none 0 0, .slice none 0 0] 25 (0, 0))) := Lib.hid (by rw [Below.heap_setCell _ _ _ _ (by simp; omega)]; exact HA1.out.res)
      go_wp2_with (((with_reducible refine wpList_store_row (o := ⟨none, .store 25 (.tmp 10) (.tmp 39), _, _, _, _⟩) ?_ 25 (.tmp 10) (.tmp 39) ?_ (w.heap.size + 1 + 1 + 1 + 1 + 1) #[.int .i64 s1.i, .slice s1.P.p s1.P.n s1.P.c, .int .i64 s1.t, .int .i64 who, .int .i64 s1.r, .slice s1.L.p s1.L.n s1.L.c, .int .i64 s1.c, .slice s1.V.p s1.V.n s1.V.c, .slice s1.N.p s1.N.n s1.N.c, .slice s1.M.p s1.M.n s1.M.c] ?_ ?_ 25 #[.int .i64 0, .slice none 0 0, .int .i64 0, .int .i64 0, .int .i64 0, .slice none 0 0, .int .i64 0, .slice none 0 0, .slice none 0 0, .slice none 0 0] ?_ ?_ ?_ ?_ ?_); (exact rfl); (exact rfl); (exact rfl); (exact rfl); (exact HRES.out); (exact info_seat); (exact rfl); (exact seat_one { s1 with v := who })))
      have HR2 := Lib.hid (setRow_heap _ _ _ #[.int .i64 s1.i, .slice s1.P.p s1.P.n s1.P.c, .int .i64 s1.t, .int .i64 who, .int .i64 s1.r, .slice s1.L.p s1.L.n s1.L.c, .int .i64 s1.c, .slice s1.V.p s1.V.n s1.V.c, .slice s1.N.p s1.N.n s1.N.c, .slice s1.M.p s1.M.n s1.M.c] _ _ HRES.out)
      have X2 : Ext w ((W1.setCell ⟨w.heap.size, 3, none⟩ (.int .i64 who)).setRow (w.heap.size + 1 + 1 + 1 + 1 + 1) #[.int .i64 s1.i, .slice s1.P.p s1.P.n s1.P.c, .int .i64 s1.t, .int .i64 who, .int .i64 s1.r, .slice s1.L.p s1.L.n s1.L.c, .int .i64 s1.c, .slice s1.V.p s1.V.n s1.V.c, .slice s1.N.p s1.N.n s1.N.c, .slice s1.M.p s1.M.n s1.M.c]) := ext_setRow (Below.setCell HA1.out.ext (p := ⟨w.heap.size, 3, none⟩) (Nat.le_refl _) _) (by omega) _
      generalize (W1.setCell ⟨w.heap.size, 3, none⟩ (.int .i64 who)).setRow (w.heap.size + 1 + 1 + 1 + 1 + 1) #[.int .i64 s1.i, .slice s1.P.p s1.P.n s1.P.c, .int .i64 s1.t, .int .i64 who, .int .i64 s1.r, .slice s1.L.p s1.L.n s1.L.c, .int .i64 s1.c, .slice s1.V.p s1.V.n s1.V.c, .slice s1.N.p s1.N.n s1.N.c, .slice s1.M.p s1.M.n s1.M.c] = W2 at HR2 X2 ⊢
      have ri : W2.cell? ⟨w.heap.size + 1 + 1 + 1 + 1 + 1, 0, none⟩ = some (.int .i64 s1.i) := cell_of_row _ _ 0 _ _ _ HR2.out
      have rP : W2.cell? ⟨w.heap.size + 1 + 1 + 1 + 1 + 1, 1, none⟩ = some (.slice s1.P.p s1.P.n s1.P.c) := cell_of_row _ _ 1 _ _ _ HR2.out
      have rt : W2.cell? ⟨w.heap.size + 1 + 1 + 1 + 1 + 1, 2, none⟩ = some (.int .i64 s1.t) := cell_of_row _ _ 2 _ _ _ HR2.out
      have rv : W2.cell? ⟨w.heap.size + 1 + 1 + 1 + 1 + 1, 3, none⟩ = some (.int .i64 who) := cell_of_row _ _ 3 _ _ _ HR2.out
      have rr : W2.cell? ⟨w.heap.size + 1 + 1 + 1 + 1 + 1, 4, none⟩ = some (.int .i64 s1.r) := cell_of_row _ _ 4 _ _ _ HR2.out
      have rL : W2.cell? ⟨w.heap.size + 1 + 1 + 1 + 1 + 1, 5, none⟩ = some (.slice s1.L.p s1.L.n s1.L.c) := cell_of_row _ _ 5 _ _ _ HR2.out
      have rc : W2.cell? ⟨w.heap.size + 1 + 1 + 1 + 1 + 1, 6, none⟩ = some (.int .i64 s1.c) := cell_of_row _ _ 6 _ _ _ HR2.out
      have rV : W2.cell? ⟨w.heap.size + 1 + 1 + 1 + 1 + 1, 7, none⟩ = some (.slice s1.V.p s1.V.n s1.V.c) := cell_of_row _ _ 7 _ _ _ HR2.out
      have rN : W2.cell? ⟨w.heap.size + 1 + 1 + 1 + 1 + 1, 8, none⟩ = some (.slice s1.N.p s1.N.n s1.N.c) := cell_of_row _ _ 8 _ _ _ HR2.out
      have rM : W2.cell? ⟨w.heap.size + 1 + 1 + 1 + 1 + 1, 9, none⟩ = some (.slice s1.M.p s1.M.n s1.M.c) := cell_of_row _ _ 9 _ _ _ HR2.out
      go_wp2
      have HBF : Hid (askB d term who last many = true) := Lib.hid (by rw [HASK.out, HE.out.1 (by omega), HE.out.2.1 (by omega), HE.out.2.2 (by omega)]; rfl)
      rw [HBF.out]
      refine bodyPost_ret (v := .tuple #[.agg (seatA { s1 with v := who }), .bool true]) (by simp [results, Try.results21, go_sem, seatA, ri, rP, rt, rv, rr, rL, rc, rV, rN, rM]) rfl ⟨⟨_, rfl, fun W d' h => ?_⟩, X2⟩
      have h2 := HTR.out W d' h
      have e0 : askD d' true term who = { upD d' term with v := who } := rfl
      show SeatR W { s1 with v := who } (askD d' true term who)
      rw [e0]; exact ⟨h2.i, h2.t, rfl, h2.r, h2.c, h2.P, h2.L, h2.V, h2.N, h2.M⟩

end Go.Proofs.Ytmcenioblbcehaa.Lg
