/- Votes: the law's seat and its live question. -/
import Derived.Test.YtmcenioblbcehaaVoteG
import Derived.Deep.RegionHeld3
import Derived.Deep.RegionWith
namespace Go.Proofs.Ytmcenioblbcehaa.Lg
open Go.RowKit Go.Proofs.Ytmcenioblbcehaa
set_option linter.unusedVariables false

def BoxAt (w : World) (B : Nat) (s : SeatV) : Prop := w.heap[B]? = some (.cells (seatA s) 25 (0, 0))
theorem BoxAt.ext {w w1 : World} {B : Nat} {s : SeatV} (h : BoxAt w B s) (hx : Ext w w1) : BoxAt w1 B s := heap_ext h hx
theorem BoxAt.lt {w : World} {B : Nat} {s : SeatV} (h : BoxAt w B s) : B < w.heap.size := (Array.getElem?_eq_some_iff.1 h).1
theorem box_zero (w : World) : (w.alloc (.cells #[.int .i64 0, .slice none 0 0, .int .i64 0, .int .i64 0, .int .i64 0, .slice none 0 0, .int .i64 0, .slice none 0 0, .slice none 0 0, .slice none 0 0] 25)).heap[w.heap.size]? = some (.cells #[.int .i64 0, .slice none 0 0, .int .i64 0, .int .i64 0, .int .i64 0, .slice none 0 0, .int .i64 0, .slice none 0 0, .slice none 0 0, .slice none 0 0] 25 (0, 0)) := by
  have := heap_alloc_new w (.cells #[.int .i64 0, .slice none 0 0, .int .i64 0, .int .i64 0, .int .i64 0, .slice none 0 0, .int .i64 0, .slice none 0 0, .slice none 0 0, .slice none 0 0] 25); simpa using this
theorem box_new (w : World) (s : SeatV) : BoxAt ((w.alloc (.cells #[.int .i64 0, .slice none 0 0, .int .i64 0, .int .i64 0, .int .i64 0, .slice none 0 0, .int .i64 0, .slice none 0 0, .slice none 0 0, .slice none 0 0] 25)).setRow w.heap.size (seatA s)) w.heap.size s ∧ Ext w ((w.alloc (.cells #[.int .i64 0, .slice none 0 0, .int .i64 0, .int .i64 0, .int .i64 0, .slice none 0 0, .int .i64 0, .slice none 0 0, .slice none 0 0, .slice none 0 0] 25)).setRow w.heap.size (seatA s)) :=
  ⟨setRow_heap _ _ _ _ _ _ (box_zero w), ext_setRow (Ext.alloc _ _) (Nat.le_refl _) _⟩
theorem SlR.lit {w w1 : World} {T : TypeId} {cs : Array Value} {B n : Nat} {l : List Int} (hx : Ext (w.alloc (.cells cs T)) w1) (hcs : cs = (l.map (Value.int .i64)).toArray) (hB : w.heap.size = B) (hn : l.length = n) (hw : ∀ x ∈ l, (Lit.int .i64 x).wf = true) (hl : n ≤ 1000) : SlR LI w1 ⟨some ⟨B, 0, none⟩, n, n⟩ l := by
  subst hcs
  exact ⟨Lay.Row.lit hx (by simpa using Lay.all_ints w1 l hw) hB hn (show n ≤ 9223372036854775807 by omega), Nat.le_refl _, (show n ≤ 9223372036854775807 by omega), fun _ => ⟨_, _, rfl⟩⟩
theorem SlR.block {α : Type} {E : Lay α} {W : World} {cs : Array Value} {T : TypeId} {B n : Nat} {l : List α} (h : W.heap[B]? = some (.cells cs T (0, 0))) (ha : E.All W cs.toList l) (hn : l.length = n) (hl : n ≤ 1000) : SlR E W ⟨some ⟨B, 0, none⟩, n, n⟩ l := by
  refine ⟨⟨hn, (by omega : n ≤ 9223372036854775807), _, ha, fun _ => ⟨B, 0, rfl, fun j u hu => ?_⟩⟩, Nat.le_refl _, (by omega : n ≤ 9223372036854775807), fun _ => ⟨_, _, rfl⟩⟩
  rw [cell_of_row _ _ _ _ _ _ h, Nat.zero_add]
  simpa using hu
def D0 : St := { i := 2, P := [1, 2, 3], t := 4, v := -1, r := 1, L := [(1, []), (3, [])], c := 1, V := [], N := [], M := [] }
theorem two_ents (w : World) : LEnt.All w [.int .i64 1, .slice none 0 0, .int .i64 3, .slice none 0 0] [(1, []), (3, [])] := by
  have h : ∀ t : Int, (Lit.int .i64 t).wf = true → LEnt.R w [.int .i64 t, .slice none 0 0] (t, []) := fun t ht => ⟨[.int .i64 t], [.slice none 0 0], rfl, ⟨rfl, ht⟩, ⟨_, rfl, Lay.Sl.nil _ _⟩⟩
  exact ⟨_, _, rfl, h 1 rfl, _, _, rfl, h 3 rfl, rfl⟩
set_option maxRecDepth 100000 in
set_option maxHeartbeats 2000000 in
theorem seat_any (w : World) : Calls Try.prog 25 #[] w fun e w' => RetSeat w D0 e w' := by
  have HZ : Hid ((((w.alloc (.cells #[.int .i64 0, .slice none 0 0, .int .i64 0, .int .i64 0, .int .i64 0, .slice none 0 0, .int .i64 0, .slice none 0 0, .slice none 0 0, .slice none 0 0] 25)).alloc (.cells #[.int .i64 1, .int .i64 2, .int .i64 3] 3)).alloc (.cells #[.int .i64 1, .slice none 0 0, .int .i64 3, .slice none 0 0] 55)).heap[w.heap.size]? = some (.cells #[.int .i64 0, .slice none 0 0, .int .i64 0, .int .i64 0, .int .i64 0, .slice none 0 0, .int .i64 0, .slice none 0 0, .slice none 0 0, .slice none 0 0] 25 (0, 0))) := Lib.hid (heap_ext (box_zero w) (by (unfold Ext; repeat (first | exact Below.refl _ _ | assumption | refine Below.drew ?_ | refine below_drewN ?_ _ | refine Below.alloc ?_ (by first | exact Nat.le_refl _ | (simp; done) | (simp; omega) | omega) _ | refine Below.setCell ?_ (by first | exact Nat.le_refl _ | (simp; done) | (simp; omega) | omega) _))))
  go_enter Try.func25, Try.ntmps25
  go_wp2_with ((with_reducible refine wpList_store_row (o := ⟨none, .store 25 (.tmp 0) (.tmp 5), _, _, _, _⟩) ?_ 25 (.tmp 0) (.tmp 5) ?_ w.heap.size #[.int .i64 2, .slice (some ⟨w.heap.size + 1, 0, none⟩) 3 3, .int .i64 4, .int .i64 (-1), .int .i64 1, .slice (some ⟨w.heap.size + 1 + 1, 0, none⟩) 2 2, .int .i64 1, .slice none 0 0, .slice none 0 0, .slice none 0 0] ?_ ?_ 25 #[.int .i64 0, .slice none 0 0, .int .i64 0, .int .i64 0, .int .i64 0, .slice none 0 0, .int .i64 0, .slice none 0 0, .slice none 0 0, .slice none 0 0] ?_ ?_ ?_ ?_ ?_); (exact rfl); (exact rfl); (exact rfl); (exact rfl); (exact HZ.out); (exact info_seat); (exact rfl); (exact seat_one { i := 2, t := 4, v := -1, r := 1, c := 1, P := ⟨some ⟨w.heap.size + 1, 0, none⟩, 3, 3⟩, L := ⟨some ⟨w.heap.size + 1 + 1, 0, none⟩, 2, 2⟩, V := SlV.nil, N := SlV.nil, M := SlV.nil }))
  have HR := Lib.hid (setRow_heap _ _ _ #[.int .i64 2, .slice (some ⟨w.heap.size + 1, 0, none⟩) 3 3, .int .i64 4, .int .i64 (-1), .int .i64 1, .slice (some ⟨w.heap.size + 1 + 1, 0, none⟩) 2 2, .int .i64 1, .slice none 0 0, .slice none 0 0, .slice none 0 0] _ _ HZ.out)
  have HP : Hid (((((w.alloc (.cells #[.int .i64 0, .slice none 0 0, .int .i64 0, .int .i64 0, .int .i64 0, .slice none 0 0, .int .i64 0, .slice none 0 0, .slice none 0 0, .slice none 0 0] 25)).alloc (.cells #[.int .i64 1, .int .i64 2, .int .i64 3] 3)).alloc (.cells #[.int .i64 1, .slice none 0 0, .int .i64 3, .slice none 0 0] 55)).setRow w.heap.size #[.int .i64 2, .slice (some ⟨w.heap.size + 1, 0, none⟩) 3 3, .int .i64 4, .int .i64 (-1), .int .i64 1, .slice (some ⟨w.heap.size + 1 + 1, 0, none⟩) 2 2, .int .i64 1, .slice none 0 0, .slice none 0 0, .slice none 0 0]).heap[w.heap.size + 1]? = some (.cells #[.int .i64 1, .int .i64 2, .int .i64 3] 3 (0, 0))) := Lib.hid (by
    rw [setRow_other _ _ _ _ (by omega)]
    refine heap_ext (w := ((w.alloc (.cells #[.int .i64 0, .slice none 0 0, .int .i64 0, .int .i64 0, .int .i64 0, .slice none 0 0, .int .i64 0, .slice none 0 0, .slice none 0 0, .slice none 0 0] 25)).alloc (.cells #[.int .i64 1, .int .i64 2, .int .i64 3] 3))) (by have := heap_alloc_new (w.alloc (.cells #[.int .i64 0, .slice none 0 0, .int .i64 0, .int .i64 0, .int .i64 0, .slice none 0 0, .int .i64 0, .slice none 0 0, .slice none 0 0, .slice none 0 0] 25)) (.cells #[.int .i64 1, .int .i64 2, .int .i64 3] 3); simpa using this) ?_
    (unfold Ext; repeat (first | exact Below.refl _ _ | assumption | refine Below.drew ?_ | refine below_drewN ?_ _ | refine Below.alloc ?_ (by first | exact Nat.le_refl _ | (simp; done) | (simp; omega) | omega) _ | refine Below.setCell ?_ (by first | exact Nat.le_refl _ | (simp; done) | (simp; omega) | omega) _)))
  have HL : Hid (((((w.alloc (.cells #[.int .i64 0, .slice none 0 0, .int .i64 0, .int .i64 0, .int .i64 0, .slice none 0 0, .int .i64 0, .slice none 0 0, .slice none 0 0, .slice none 0 0] 25)).alloc (.cells #[.int .i64 1, .int .i64 2, .int .i64 3] 3)).alloc (.cells #[.int .i64 1, .slice none 0 0, .int .i64 3, .slice none 0 0] 55)).setRow w.heap.size #[.int .i64 2, .slice (some ⟨w.heap.size + 1, 0, none⟩) 3 3, .int .i64 4, .int .i64 (-1), .int .i64 1, .slice (some ⟨w.heap.size + 1 + 1, 0, none⟩) 2 2, .int .i64 1, .slice none 0 0, .slice none 0 0, .slice none 0 0]).heap[w.heap.size + 1 + 1]? = some (.cells #[.int .i64 1, .slice none 0 0, .int .i64 3, .slice none 0 0] 55 (0, 0))) := Lib.hid (by
    rw [setRow_other _ _ _ _ (by omega)]
    have := heap_alloc_new ((w.alloc (.cells #[.int .i64 0, .slice none 0 0, .int .i64 0, .int .i64 0, .int .i64 0, .slice none 0 0, .int .i64 0, .slice none 0 0, .slice none 0 0, .slice none 0 0] 25)).alloc (.cells #[.int .i64 1, .int .i64 2, .int .i64 3] 3)) (.cells #[.int .i64 1, .slice none 0 0, .int .i64 3, .slice none 0 0] 55); simpa using this)
  have X : Ext w ((((w.alloc (.cells #[.int .i64 0, .slice none 0 0, .int .i64 0, .int .i64 0, .int .i64 0, .slice none 0 0, .int .i64 0, .slice none 0 0, .slice none 0 0, .slice none 0 0] 25)).alloc (.cells #[.int .i64 1, .int .i64 2, .int .i64 3] 3)).alloc (.cells #[.int .i64 1, .slice none 0 0, .int .i64 3, .slice none 0 0] 55)).setRow w.heap.size #[.int .i64 2, .slice (some ⟨w.heap.size + 1, 0, none⟩) 3 3, .int .i64 4, .int .i64 (-1), .int .i64 1, .slice (some ⟨w.heap.size + 1 + 1, 0, none⟩) 2 2, .int .i64 1, .slice none 0 0, .slice none 0 0, .slice none 0 0]) := ext_setRow (by (unfold Ext; repeat (first | exact Below.refl _ _ | assumption | refine Below.drew ?_ | refine below_drewN ?_ _ | refine Below.alloc ?_ (by first | exact Nat.le_refl _ | (simp; done) | (simp; omega) | omega) _ | refine Below.setCell ?_ (by first | exact Nat.le_refl _ | (simp; done) | (simp; omega) | omega) _))) (Nat.le_refl _) _
  generalize (((w.alloc (.cells #[.int .i64 0, .slice none 0 0, .int .i64 0, .int .i64 0, .int .i64 0, .slice none 0 0, .int .i64 0, .slice none 0 0, .slice none 0 0, .slice none 0 0] 25)).alloc (.cells #[.int .i64 1, .int .i64 2, .int .i64 3] 3)).alloc (.cells #[.int .i64 1, .slice none 0 0, .int .i64 3, .slice none 0 0] 55)).setRow w.heap.size #[.int .i64 2, .slice (some ⟨w.heap.size + 1, 0, none⟩) 3 3, .int .i64 4, .int .i64 (-1), .int .i64 1, .slice (some ⟨w.heap.size + 1 + 1, 0, none⟩) 2 2, .int .i64 1, .slice none 0 0, .slice none 0 0, .slice none 0 0] = u at HR HP HL X ⊢
  have r0 : u.cell? ⟨w.heap.size, 0, none⟩ = some (.int .i64 2) := cell_of_row _ _ 0 _ _ _ HR.out
  have r1 : u.cell? ⟨w.heap.size, 1, none⟩ = some (.slice (some ⟨w.heap.size + 1, 0, none⟩) 3 3) := cell_of_row _ _ 1 _ _ _ HR.out
  have r2 : u.cell? ⟨w.heap.size, 2, none⟩ = some (.int .i64 4) := cell_of_row _ _ 2 _ _ _ HR.out
  have r3 : u.cell? ⟨w.heap.size, 3, none⟩ = some (.int .i64 (-1)) := cell_of_row _ _ 3 _ _ _ HR.out
  have r4 : u.cell? ⟨w.heap.size, 4, none⟩ = some (.int .i64 1) := cell_of_row _ _ 4 _ _ _ HR.out
  have r5 : u.cell? ⟨w.heap.size, 5, none⟩ = some (.slice (some ⟨w.heap.size + 1 + 1, 0, none⟩) 2 2) := cell_of_row _ _ 5 _ _ _ HR.out
  have r6 : u.cell? ⟨w.heap.size, 6, none⟩ = some (.int .i64 1) := cell_of_row _ _ 6 _ _ _ HR.out
  have r7 : u.cell? ⟨w.heap.size, 7, none⟩ = some (.slice none 0 0) := cell_of_row _ _ 7 _ _ _ HR.out
  have r8 : u.cell? ⟨w.heap.size, 8, none⟩ = some (.slice none 0 0) := cell_of_row _ _ 8 _ _ _ HR.out
  have r9 : u.cell? ⟨w.heap.size, 9, none⟩ = some (.slice none 0 0) := cell_of_row _ _ 9 _ _ _ HR.out
  refine bodyPost_ret (v := .agg (seatA { i := 2, t := 4, v := -1, r := 1, c := 1, P := ⟨some ⟨w.heap.size + 1, 0, none⟩, 3, 3⟩, L := ⟨some ⟨w.heap.size + 1 + 1, 0, none⟩, 2, 2⟩, V := SlV.nil, N := SlV.nil, M := SlV.nil })) (by simp [results, Try.results25, go_sem, seatA, SlV.nil, r0, r1, r2, r3, r4, r5, r6, r7, r8, r9]) rfl ⟨⟨_, rfl, ?_⟩, X⟩
  exact ⟨rfl, rfl, rfl, rfl, rfl, SlR.block HP.out (Lay.all_ints u [1, 2, 3] (by decide)) rfl (by omega), SlR.block HL.out (two_ents u) rfl (by omega), SlR.nil _ _, SlR.nil _ _, SlR.nil _ _⟩


def D3 : St := askD D0 true 4 1
def D5 : St := askD D3 false 4 3
def D7 : St := askD D3 false 5 3
def D9 : St := askD D7 true 5 3
def D11 : St := beginD D9
def D12 : St := downD D11 9
def D13 : St := askD D11 false 6 1
theorem box_val {W : World} {B : Nat} {s : SeatV} (h : BoxAt W B s) (k : Nat) {v : Value} (hk : (seatA s)[k]? = some v) : W.cell? ⟨B, k, none⟩ = some v := by
  rw [cell_of_row _ _ k _ _ _ h]; exact hk
theorem box_int {W : World} {B : Nat} {s : SeatV} (h : BoxAt W B s) (k : Nat) {x y : Int} (hk : (seatA s)[k]? = some (.int .i64 x)) (e : x = y) : W.cell? ⟨B, k, none⟩ = some (.int .i64 y) := by
  subst e; exact box_val h k hk
theorem won_lit {w w' : World} {p q : Option Addr} {n m c d : Nat} {vs ps : List Int} (h : RowI .i64 w' p n vs) (k : RowI .i64 w' q m ps) (hm : m ≤ 1000) (hx : Ext w w') {b : Bool} (hb : wonB vs ps = b) :
    Calls Try.prog 16 #[.slice p n c, .slice q m d] w' fun e w2 => e = .returned (.bool b) ∧ Ext w w2 :=
  (won_any p q n c m d vs ps w' h k (by omega)).mono fun e w2 h => ⟨by rw [h.1, hb], Ext.trans hx h.2⟩

set_option maxRecDepth 100000 in
set_option maxHeartbeats 8000000 in
theorem head_any (w : World) : Calls Try.prog 9 #[] w fun e w' => e = .returned (.bool true) ∧ Ext w w' := by
  have hx : Ext w w := Ext.refl _
  go_enter Try.func9, Try.ntmps9
  go_wp2_with fail
  refine (seat_any _).mono ?_
  rintro e w1 ⟨⟨s0, rfl, h0⟩, hx1⟩
  have HX := Lib.hid hx1
  replace hx := Ext.trans hx HX.out
  have H0 := Lib.hid h0
  clear hx1 h0 HX
  unfold seatA
  go_wp2_with fail
  refine (ask_any s0 D0 _ H0.out 3 1 9 9).mono ?_
  rw [show askB D0 3 1 9 9 = false by decide]
  rintro e w2 ⟨⟨s1, rfl, h1⟩, hx1⟩
  have HX := Lib.hid hx1
  replace H0 := Lib.hid (H0.out.ext HX.out)
  replace hx := Ext.trans hx HX.out
  have H1 : Hid (SeatR w2 s1 (askD D0 false 3 1)) := Lib.hid (h1 _ _ H0.out)
  clear hx1 h1 HX
  unfold seatA
  have HBX : Hid (BoxAt ((w2.alloc (.cells #[.int .i64 0, .slice none 0 0, .int .i64 0, .int .i64 0, .int .i64 0, .slice none 0 0, .int .i64 0, .slice none 0 0, .slice none 0 0, .slice none 0 0] 25)).setRow w2.heap.size #[.int .i64 s1.i, .slice s1.P.p s1.P.n s1.P.c, .int .i64 s1.t, .int .i64 s1.v, .int .i64 s1.r, .slice s1.L.p s1.L.n s1.L.c, .int .i64 s1.c, .slice s1.V.p s1.V.n s1.V.c, .slice s1.N.p s1.N.n s1.N.c, .slice s1.M.p s1.M.n s1.M.c]) w2.heap.size s1 ∧ Ext w2 ((w2.alloc (.cells #[.int .i64 0, .slice none 0 0, .int .i64 0, .int .i64 0, .int .i64 0, .slice none 0 0, .int .i64 0, .slice none 0 0, .slice none 0 0, .slice none 0 0] 25)).setRow w2.heap.size #[.int .i64 s1.i, .slice s1.P.p s1.P.n s1.P.c, .int .i64 s1.t, .int .i64 s1.v, .int .i64 s1.r, .slice s1.L.p s1.L.n s1.L.c, .int .i64 s1.c, .slice s1.V.p s1.V.n s1.V.c, .slice s1.N.p s1.N.n s1.N.c, .slice s1.M.p s1.M.n s1.M.c])) := Lib.hid (box_new w2 s1)
  have HZ := Lib.hid (box_zero w2)
  go_wp2_with ((with_reducible refine wpList_store_row (o := ⟨none, .store 25 (.tmp 1) (.tmp 21), _, _, _, _⟩) ?_ 25 (.tmp 1) (.tmp 21) ?_ w2.heap.size #[.int .i64 s1.i, .slice s1.P.p s1.P.n s1.P.c, .int .i64 s1.t, .int .i64 s1.v, .int .i64 s1.r, .slice s1.L.p s1.L.n s1.L.c, .int .i64 s1.c, .slice s1.V.p s1.V.n s1.V.c, .slice s1.N.p s1.N.n s1.N.c, .slice s1.M.p s1.M.n s1.M.c] ?_ ?_ 25 #[.int .i64 0, .slice none 0 0, .int .i64 0, .int .i64 0, .int .i64 0, .slice none 0 0, .int .i64 0, .slice none 0 0, .slice none 0 0, .slice none 0 0] ?_ ?_ ?_ ?_ ?_); (exact rfl); (exact rfl); (exact rfl); (exact rfl); (exact HZ.out); (exact info_seat); (exact rfl); (exact seat_one s1); generalize (w2.alloc (.cells #[.int .i64 0, .slice none 0 0, .int .i64 0, .int .i64 0, .int .i64 0, .slice none 0 0, .int .i64 0, .slice none 0 0, .slice none 0 0, .slice none 0 0] 25)).setRow w2.heap.size #[.int .i64 s1.i, .slice s1.P.p s1.P.n s1.P.c, .int .i64 s1.t, .int .i64 s1.v, .int .i64 s1.r, .slice s1.L.p s1.L.n s1.L.c, .int .i64 s1.c, .slice s1.V.p s1.V.n s1.V.c, .slice s1.N.p s1.N.n s1.N.c, .slice s1.M.p s1.M.n s1.M.c] = u2 at HBX ⊢; generalize w2.heap.size = b1 at HBX ⊢; have B1 := Lib.hid HBX.out.1; have HX := Lib.hid HBX.out.2; replace H0 := Lib.hid (H0.out.ext HX.out); replace H1 := Lib.hid (H1.out.ext HX.out); replace hx := Ext.trans hx HX.out; clear HX HBX HZ)
  refine (seat_any _).mono ?_
  rintro e w3 ⟨⟨sa, rfl, ha⟩, hx1⟩
  have HX := Lib.hid hx1
  replace H0 := Lib.hid (H0.out.ext HX.out)
  replace H1 := Lib.hid (H1.out.ext HX.out)
  replace B1 := Lib.hid (B1.out.ext HX.out)
  replace hx := Ext.trans hx HX.out
  have Ha := Lib.hid ha
  clear hx1 ha HX
  unfold seatA
  go_wp2_with fail
  refine (ask_any sa D0 _ Ha.out 4 1 3 2).mono ?_
  rw [show askB D0 4 1 3 2 = true by decide]
  rintro e w4 ⟨⟨s3, rfl, h3⟩, hx1⟩
  have HX := Lib.hid hx1
  replace H0 := Lib.hid (H0.out.ext HX.out)
  replace H1 := Lib.hid (H1.out.ext HX.out)
  replace Ha := Lib.hid (Ha.out.ext HX.out)
  replace B1 := Lib.hid (B1.out.ext HX.out)
  replace hx := Ext.trans hx HX.out
  have H3 : Hid (SeatR w4 s3 D3) := Lib.hid (h3 _ _ Ha.out)
  clear hx1 h3 HX
  unfold seatA
  have HBX : Hid (BoxAt ((w4.alloc (.cells #[.int .i64 0, .slice none 0 0, .int .i64 0, .int .i64 0, .int .i64 0, .slice none 0 0, .int .i64 0, .slice none 0 0, .slice none 0 0, .slice none 0 0] 25)).setRow w4.heap.size #[.int .i64 s3.i, .slice s3.P.p s3.P.n s3.P.c, .int .i64 s3.t, .int .i64 s3.v, .int .i64 s3.r, .slice s3.L.p s3.L.n s3.L.c, .int .i64 s3.c, .slice s3.V.p s3.V.n s3.V.c, .slice s3.N.p s3.N.n s3.N.c, .slice s3.M.p s3.M.n s3.M.c]) w4.heap.size s3 ∧ Ext w4 ((w4.alloc (.cells #[.int .i64 0, .slice none 0 0, .int .i64 0, .int .i64 0, .int .i64 0, .slice none 0 0, .int .i64 0, .slice none 0 0, .slice none 0 0, .slice none 0 0] 25)).setRow w4.heap.size #[.int .i64 s3.i, .slice s3.P.p s3.P.n s3.P.c, .int .i64 s3.t, .int .i64 s3.v, .int .i64 s3.r, .slice s3.L.p s3.L.n s3.L.c, .int .i64 s3.c, .slice s3.V.p s3.V.n s3.V.c, .slice s3.N.p s3.N.n s3.N.c, .slice s3.M.p s3.M.n s3.M.c])) := Lib.hid (box_new w4 s3)
  have HZ := Lib.hid (box_zero w4)
  go_wp2_with ((with_reducible refine wpList_store_row (o := ⟨none, .store 25 (.tmp 3) (.tmp 26), _, _, _, _⟩) ?_ 25 (.tmp 3) (.tmp 26) ?_ w4.heap.size #[.int .i64 s3.i, .slice s3.P.p s3.P.n s3.P.c, .int .i64 s3.t, .int .i64 s3.v, .int .i64 s3.r, .slice s3.L.p s3.L.n s3.L.c, .int .i64 s3.c, .slice s3.V.p s3.V.n s3.V.c, .slice s3.N.p s3.N.n s3.N.c, .slice s3.M.p s3.M.n s3.M.c] ?_ ?_ 25 #[.int .i64 0, .slice none 0 0, .int .i64 0, .int .i64 0, .int .i64 0, .slice none 0 0, .int .i64 0, .slice none 0 0, .slice none 0 0, .slice none 0 0] ?_ ?_ ?_ ?_ ?_); (exact rfl); (exact rfl); (exact rfl); (exact rfl); (exact HZ.out); (exact info_seat); (exact rfl); (exact seat_one s3); generalize (w4.alloc (.cells #[.int .i64 0, .slice none 0 0, .int .i64 0, .int .i64 0, .int .i64 0, .slice none 0 0, .int .i64 0, .slice none 0 0, .slice none 0 0, .slice none 0 0] 25)).setRow w4.heap.size #[.int .i64 s3.i, .slice s3.P.p s3.P.n s3.P.c, .int .i64 s3.t, .int .i64 s3.v, .int .i64 s3.r, .slice s3.L.p s3.L.n s3.L.c, .int .i64 s3.c, .slice s3.V.p s3.V.n s3.V.c, .slice s3.N.p s3.N.n s3.N.c, .slice s3.M.p s3.M.n s3.M.c] = u4 at HBX ⊢; generalize w4.heap.size = b3 at HBX ⊢; have B3 := Lib.hid HBX.out.1; have HX := Lib.hid HBX.out.2; replace H0 := Lib.hid (H0.out.ext HX.out); replace H1 := Lib.hid (H1.out.ext HX.out); replace Ha := Lib.hid (Ha.out.ext HX.out); replace H3 := Lib.hid (H3.out.ext HX.out); replace B1 := Lib.hid (B1.out.ext HX.out); replace hx := Ext.trans hx HX.out; clear HX HBX HZ; have c3i : u4.cell? ⟨b3, 0, none⟩ = some (.int .i64 s3.i) := box_val B3.out 0 rfl; have c3P : u4.cell? ⟨b3, 1, none⟩ = some (.slice s3.P.p s3.P.n s3.P.c) := box_val B3.out 1 rfl; have c3t : u4.cell? ⟨b3, 2, none⟩ = some (.int .i64 s3.t) := box_val B3.out 2 rfl; have c3v : u4.cell? ⟨b3, 3, none⟩ = some (.int .i64 s3.v) := box_val B3.out 3 rfl; have c3r : u4.cell? ⟨b3, 4, none⟩ = some (.int .i64 s3.r) := box_val B3.out 4 rfl; have c3L : u4.cell? ⟨b3, 5, none⟩ = some (.slice s3.L.p s3.L.n s3.L.c) := box_val B3.out 5 rfl; have c3c : u4.cell? ⟨b3, 6, none⟩ = some (.int .i64 s3.c) := box_val B3.out 6 rfl; have c3V : u4.cell? ⟨b3, 7, none⟩ = some (.slice s3.V.p s3.V.n s3.V.c) := box_val B3.out 7 rfl; have c3N : u4.cell? ⟨b3, 8, none⟩ = some (.slice s3.N.p s3.N.n s3.N.c) := box_val B3.out 8 rfl; have c3M : u4.cell? ⟨b3, 9, none⟩ = some (.slice s3.M.p s3.M.n s3.M.c) := box_val B3.out 9 rfl)
  refine (ask_any s3 D3 _ H3.out 4 3 9 9).mono ?_
  rw [show askB D3 4 3 9 9 = false by decide]
  rintro e w5 ⟨⟨s5, rfl, h5⟩, hx1⟩
  have HX := Lib.hid hx1
  replace H0 := Lib.hid (H0.out.ext HX.out)
  replace H1 := Lib.hid (H1.out.ext HX.out)
  replace Ha := Lib.hid (Ha.out.ext HX.out)
  replace H3 := Lib.hid (H3.out.ext HX.out)
  replace B1 := Lib.hid (B1.out.ext HX.out)
  replace B3 := Lib.hid (B3.out.ext HX.out)
  replace hx := Ext.trans hx HX.out
  have H5 : Hid (SeatR w5 s5 D5) := Lib.hid (h5 _ _ H3.out)
  clear hx1 h5 HX
  unfold seatA
  clear c3i c3P c3t c3v c3r c3L c3c c3V c3N c3M
  have HBX : Hid (BoxAt ((w5.alloc (.cells #[.int .i64 0, .slice none 0 0, .int .i64 0, .int .i64 0, .int .i64 0, .slice none 0 0, .int .i64 0, .slice none 0 0, .slice none 0 0, .slice none 0 0] 25)).setRow w5.heap.size #[.int .i64 s5.i, .slice s5.P.p s5.P.n s5.P.c, .int .i64 s5.t, .int .i64 s5.v, .int .i64 s5.r, .slice s5.L.p s5.L.n s5.L.c, .int .i64 s5.c, .slice s5.V.p s5.V.n s5.V.c, .slice s5.N.p s5.N.n s5.N.c, .slice s5.M.p s5.M.n s5.M.c]) w5.heap.size s5 ∧ Ext w5 ((w5.alloc (.cells #[.int .i64 0, .slice none 0 0, .int .i64 0, .int .i64 0, .int .i64 0, .slice none 0 0, .int .i64 0, .slice none 0 0, .slice none 0 0, .slice none 0 0] 25)).setRow w5.heap.size #[.int .i64 s5.i, .slice s5.P.p s5.P.n s5.P.c, .int .i64 s5.t, .int .i64 s5.v, .int .i64 s5.r, .slice s5.L.p s5.L.n s5.L.c, .int .i64 s5.c, .slice s5.V.p s5.V.n s5.V.c, .slice s5.N.p s5.N.n s5.N.c, .slice s5.M.p s5.M.n s5.M.c])) := Lib.hid (box_new w5 s5)
  have HZ := Lib.hid (box_zero w5)
  go_wp2_with ((with_reducible refine wpList_store_row (o := ⟨none, .store 25 (.tmp 5) (.tmp 31), _, _, _, _⟩) ?_ 25 (.tmp 5) (.tmp 31) ?_ w5.heap.size #[.int .i64 s5.i, .slice s5.P.p s5.P.n s5.P.c, .int .i64 s5.t, .int .i64 s5.v, .int .i64 s5.r, .slice s5.L.p s5.L.n s5.L.c, .int .i64 s5.c, .slice s5.V.p s5.V.n s5.V.c, .slice s5.N.p s5.N.n s5.N.c, .slice s5.M.p s5.M.n s5.M.c] ?_ ?_ 25 #[.int .i64 0, .slice none 0 0, .int .i64 0, .int .i64 0, .int .i64 0, .slice none 0 0, .int .i64 0, .slice none 0 0, .slice none 0 0, .slice none 0 0] ?_ ?_ ?_ ?_ ?_); (exact rfl); (exact rfl); (exact rfl); (exact rfl); (exact HZ.out); (exact info_seat); (exact rfl); (exact seat_one s5); generalize (w5.alloc (.cells #[.int .i64 0, .slice none 0 0, .int .i64 0, .int .i64 0, .int .i64 0, .slice none 0 0, .int .i64 0, .slice none 0 0, .slice none 0 0, .slice none 0 0] 25)).setRow w5.heap.size #[.int .i64 s5.i, .slice s5.P.p s5.P.n s5.P.c, .int .i64 s5.t, .int .i64 s5.v, .int .i64 s5.r, .slice s5.L.p s5.L.n s5.L.c, .int .i64 s5.c, .slice s5.V.p s5.V.n s5.V.c, .slice s5.N.p s5.N.n s5.N.c, .slice s5.M.p s5.M.n s5.M.c] = u5 at HBX ⊢; generalize w5.heap.size = b5 at HBX ⊢; have B5 := Lib.hid HBX.out.1; have HX := Lib.hid HBX.out.2; replace H0 := Lib.hid (H0.out.ext HX.out); replace H1 := Lib.hid (H1.out.ext HX.out); replace Ha := Lib.hid (Ha.out.ext HX.out); replace H3 := Lib.hid (H3.out.ext HX.out); replace H5 := Lib.hid (H5.out.ext HX.out); replace B1 := Lib.hid (B1.out.ext HX.out); replace B3 := Lib.hid (B3.out.ext HX.out); replace hx := Ext.trans hx HX.out; clear HX HBX HZ; have c3i : u5.cell? ⟨b3, 0, none⟩ = some (.int .i64 s3.i) := box_val B3.out 0 rfl; have c3P : u5.cell? ⟨b3, 1, none⟩ = some (.slice s3.P.p s3.P.n s3.P.c) := box_val B3.out 1 rfl; have c3t : u5.cell? ⟨b3, 2, none⟩ = some (.int .i64 s3.t) := box_val B3.out 2 rfl; have c3v : u5.cell? ⟨b3, 3, none⟩ = some (.int .i64 s3.v) := box_val B3.out 3 rfl; have c3r : u5.cell? ⟨b3, 4, none⟩ = some (.int .i64 s3.r) := box_val B3.out 4 rfl; have c3L : u5.cell? ⟨b3, 5, none⟩ = some (.slice s3.L.p s3.L.n s3.L.c) := box_val B3.out 5 rfl; have c3c : u5.cell? ⟨b3, 6, none⟩ = some (.int .i64 s3.c) := box_val B3.out 6 rfl; have c3V : u5.cell? ⟨b3, 7, none⟩ = some (.slice s3.V.p s3.V.n s3.V.c) := box_val B3.out 7 rfl; have c3N : u5.cell? ⟨b3, 8, none⟩ = some (.slice s3.N.p s3.N.n s3.N.c) := box_val B3.out 8 rfl; have c3M : u5.cell? ⟨b3, 9, none⟩ = some (.slice s3.M.p s3.M.n s3.M.c) := box_val B3.out 9 rfl)
  refine (ask_any s3 D3 _ H3.out 5 3 3 1).mono ?_
  rw [show askB D3 5 3 3 1 = false by decide]
  rintro e w6 ⟨⟨s7, rfl, h7⟩, hx1⟩
  have HX := Lib.hid hx1
  replace H0 := Lib.hid (H0.out.ext HX.out)
  replace H1 := Lib.hid (H1.out.ext HX.out)
  replace Ha := Lib.hid (Ha.out.ext HX.out)
  replace H3 := Lib.hid (H3.out.ext HX.out)
  replace H5 := Lib.hid (H5.out.ext HX.out)
  replace B1 := Lib.hid (B1.out.ext HX.out)
  replace B3 := Lib.hid (B3.out.ext HX.out)
  replace B5 := Lib.hid (B5.out.ext HX.out)
  replace hx := Ext.trans hx HX.out
  have H7 : Hid (SeatR w6 s7 D7) := Lib.hid (h7 _ _ H3.out)
  clear hx1 h7 HX
  unfold seatA
  clear c3i c3P c3t c3v c3r c3L c3c c3V c3N c3M
  have HBX : Hid (BoxAt ((w6.alloc (.cells #[.int .i64 0, .slice none 0 0, .int .i64 0, .int .i64 0, .int .i64 0, .slice none 0 0, .int .i64 0, .slice none 0 0, .slice none 0 0, .slice none 0 0] 25)).setRow w6.heap.size #[.int .i64 s7.i, .slice s7.P.p s7.P.n s7.P.c, .int .i64 s7.t, .int .i64 s7.v, .int .i64 s7.r, .slice s7.L.p s7.L.n s7.L.c, .int .i64 s7.c, .slice s7.V.p s7.V.n s7.V.c, .slice s7.N.p s7.N.n s7.N.c, .slice s7.M.p s7.M.n s7.M.c]) w6.heap.size s7 ∧ Ext w6 ((w6.alloc (.cells #[.int .i64 0, .slice none 0 0, .int .i64 0, .int .i64 0, .int .i64 0, .slice none 0 0, .int .i64 0, .slice none 0 0, .slice none 0 0, .slice none 0 0] 25)).setRow w6.heap.size #[.int .i64 s7.i, .slice s7.P.p s7.P.n s7.P.c, .int .i64 s7.t, .int .i64 s7.v, .int .i64 s7.r, .slice s7.L.p s7.L.n s7.L.c, .int .i64 s7.c, .slice s7.V.p s7.V.n s7.V.c, .slice s7.N.p s7.N.n s7.N.c, .slice s7.M.p s7.M.n s7.M.c])) := Lib.hid (box_new w6 s7)
  have HZ := Lib.hid (box_zero w6)
  go_wp2_with ((with_reducible refine wpList_store_row (o := ⟨none, .store 25 (.tmp 7) (.tmp 36), _, _, _, _⟩) ?_ 25 (.tmp 7) (.tmp 36) ?_ w6.heap.size #[.int .i64 s7.i, .slice s7.P.p s7.P.n s7.P.c, .int .i64 s7.t, .int .i64 s7.v, .int .i64 s7.r, .slice s7.L.p s7.L.n s7.L.c, .int .i64 s7.c, .slice s7.V.p s7.V.n s7.V.c, .slice s7.N.p s7.N.n s7.N.c, .slice s7.M.p s7.M.n s7.M.c] ?_ ?_ 25 #[.int .i64 0, .slice none 0 0, .int .i64 0, .int .i64 0, .int .i64 0, .slice none 0 0, .int .i64 0, .slice none 0 0, .slice none 0 0, .slice none 0 0] ?_ ?_ ?_ ?_ ?_); (exact rfl); (exact rfl); (exact rfl); (exact rfl); (exact HZ.out); (exact info_seat); (exact rfl); (exact seat_one s7); generalize (w6.alloc (.cells #[.int .i64 0, .slice none 0 0, .int .i64 0, .int .i64 0, .int .i64 0, .slice none 0 0, .int .i64 0, .slice none 0 0, .slice none 0 0, .slice none 0 0] 25)).setRow w6.heap.size #[.int .i64 s7.i, .slice s7.P.p s7.P.n s7.P.c, .int .i64 s7.t, .int .i64 s7.v, .int .i64 s7.r, .slice s7.L.p s7.L.n s7.L.c, .int .i64 s7.c, .slice s7.V.p s7.V.n s7.V.c, .slice s7.N.p s7.N.n s7.N.c, .slice s7.M.p s7.M.n s7.M.c] = u6 at HBX ⊢; generalize w6.heap.size = b7 at HBX ⊢; have B7 := Lib.hid HBX.out.1; have HX := Lib.hid HBX.out.2; replace H0 := Lib.hid (H0.out.ext HX.out); replace H1 := Lib.hid (H1.out.ext HX.out); replace Ha := Lib.hid (Ha.out.ext HX.out); replace H3 := Lib.hid (H3.out.ext HX.out); replace H5 := Lib.hid (H5.out.ext HX.out); replace H7 := Lib.hid (H7.out.ext HX.out); replace B1 := Lib.hid (B1.out.ext HX.out); replace B3 := Lib.hid (B3.out.ext HX.out); replace B5 := Lib.hid (B5.out.ext HX.out); replace hx := Ext.trans hx HX.out; clear HX HBX HZ; have c7i : u6.cell? ⟨b7, 0, none⟩ = some (.int .i64 s7.i) := box_val B7.out 0 rfl; have c7P : u6.cell? ⟨b7, 1, none⟩ = some (.slice s7.P.p s7.P.n s7.P.c) := box_val B7.out 1 rfl; have c7t : u6.cell? ⟨b7, 2, none⟩ = some (.int .i64 s7.t) := box_val B7.out 2 rfl; have c7v : u6.cell? ⟨b7, 3, none⟩ = some (.int .i64 s7.v) := box_val B7.out 3 rfl; have c7r : u6.cell? ⟨b7, 4, none⟩ = some (.int .i64 s7.r) := box_val B7.out 4 rfl; have c7L : u6.cell? ⟨b7, 5, none⟩ = some (.slice s7.L.p s7.L.n s7.L.c) := box_val B7.out 5 rfl; have c7c : u6.cell? ⟨b7, 6, none⟩ = some (.int .i64 s7.c) := box_val B7.out 6 rfl; have c7V : u6.cell? ⟨b7, 7, none⟩ = some (.slice s7.V.p s7.V.n s7.V.c) := box_val B7.out 7 rfl; have c7N : u6.cell? ⟨b7, 8, none⟩ = some (.slice s7.N.p s7.N.n s7.N.c) := box_val B7.out 8 rfl; have c7M : u6.cell? ⟨b7, 9, none⟩ = some (.slice s7.M.p s7.M.n s7.M.c) := box_val B7.out 9 rfl)
  refine (ask_any s7 D7 _ H7.out 5 3 3 3).mono ?_
  rw [show askB D7 5 3 3 3 = true by decide]
  rintro e w7 ⟨⟨s9, rfl, h9⟩, hx1⟩
  have HX := Lib.hid hx1
  replace H0 := Lib.hid (H0.out.ext HX.out)
  replace H1 := Lib.hid (H1.out.ext HX.out)
  replace Ha := Lib.hid (Ha.out.ext HX.out)
  replace H3 := Lib.hid (H3.out.ext HX.out)
  replace H5 := Lib.hid (H5.out.ext HX.out)
  replace H7 := Lib.hid (H7.out.ext HX.out)
  replace B1 := Lib.hid (B1.out.ext HX.out)
  replace B3 := Lib.hid (B3.out.ext HX.out)
  replace B5 := Lib.hid (B5.out.ext HX.out)
  replace B7 := Lib.hid (B7.out.ext HX.out)
  replace hx := Ext.trans hx HX.out
  have H9 : Hid (SeatR w7 s9 D9) := Lib.hid (h9 _ _ H7.out)
  clear hx1 h9 HX
  unfold seatA
  clear c7i c7P c7t c7v c7r c7L c7c c7V c7N c7M
  have HBX : Hid (BoxAt ((w7.alloc (.cells #[.int .i64 0, .slice none 0 0, .int .i64 0, .int .i64 0, .int .i64 0, .slice none 0 0, .int .i64 0, .slice none 0 0, .slice none 0 0, .slice none 0 0] 25)).setRow w7.heap.size #[.int .i64 s9.i, .slice s9.P.p s9.P.n s9.P.c, .int .i64 s9.t, .int .i64 s9.v, .int .i64 s9.r, .slice s9.L.p s9.L.n s9.L.c, .int .i64 s9.c, .slice s9.V.p s9.V.n s9.V.c, .slice s9.N.p s9.N.n s9.N.c, .slice s9.M.p s9.M.n s9.M.c]) w7.heap.size s9 ∧ Ext w7 ((w7.alloc (.cells #[.int .i64 0, .slice none 0 0, .int .i64 0, .int .i64 0, .int .i64 0, .slice none 0 0, .int .i64 0, .slice none 0 0, .slice none 0 0, .slice none 0 0] 25)).setRow w7.heap.size #[.int .i64 s9.i, .slice s9.P.p s9.P.n s9.P.c, .int .i64 s9.t, .int .i64 s9.v, .int .i64 s9.r, .slice s9.L.p s9.L.n s9.L.c, .int .i64 s9.c, .slice s9.V.p s9.V.n s9.V.c, .slice s9.N.p s9.N.n s9.N.c, .slice s9.M.p s9.M.n s9.M.c])) := Lib.hid (box_new w7 s9)
  have HZ := Lib.hid (box_zero w7)
  go_wp2_with ((with_reducible refine wpList_store_row (o := ⟨none, .store 25 (.tmp 9) (.tmp 41), _, _, _, _⟩) ?_ 25 (.tmp 9) (.tmp 41) ?_ w7.heap.size #[.int .i64 s9.i, .slice s9.P.p s9.P.n s9.P.c, .int .i64 s9.t, .int .i64 s9.v, .int .i64 s9.r, .slice s9.L.p s9.L.n s9.L.c, .int .i64 s9.c, .slice s9.V.p s9.V.n s9.V.c, .slice s9.N.p s9.N.n s9.N.c, .slice s9.M.p s9.M.n s9.M.c] ?_ ?_ 25 #[.int .i64 0, .slice none 0 0, .int .i64 0, .int .i64 0, .int .i64 0, .slice none 0 0, .int .i64 0, .slice none 0 0, .slice none 0 0, .slice none 0 0] ?_ ?_ ?_ ?_ ?_); (exact rfl); (exact rfl); (exact rfl); (exact rfl); (exact HZ.out); (exact info_seat); (exact rfl); (exact seat_one s9); generalize (w7.alloc (.cells #[.int .i64 0, .slice none 0 0, .int .i64 0, .int .i64 0, .int .i64 0, .slice none 0 0, .int .i64 0, .slice none 0 0, .slice none 0 0, .slice none 0 0] 25)).setRow w7.heap.size #[.int .i64 s9.i, .slice s9.P.p s9.P.n s9.P.c, .int .i64 s9.t, .int .i64 s9.v, .int .i64 s9.r, .slice s9.L.p s9.L.n s9.L.c, .int .i64 s9.c, .slice s9.V.p s9.V.n s9.V.c, .slice s9.N.p s9.N.n s9.N.c, .slice s9.M.p s9.M.n s9.M.c] = u7 at HBX ⊢; generalize w7.heap.size = b9 at HBX ⊢; have B9 := Lib.hid HBX.out.1; have HX := Lib.hid HBX.out.2; replace H0 := Lib.hid (H0.out.ext HX.out); replace H1 := Lib.hid (H1.out.ext HX.out); replace Ha := Lib.hid (Ha.out.ext HX.out); replace H3 := Lib.hid (H3.out.ext HX.out); replace H5 := Lib.hid (H5.out.ext HX.out); replace H7 := Lib.hid (H7.out.ext HX.out); replace H9 := Lib.hid (H9.out.ext HX.out); replace B1 := Lib.hid (B1.out.ext HX.out); replace B3 := Lib.hid (B3.out.ext HX.out); replace B5 := Lib.hid (B5.out.ext HX.out); replace B7 := Lib.hid (B7.out.ext HX.out); replace hx := Ext.trans hx HX.out; clear HX HBX HZ; have c9i : u7.cell? ⟨b9, 0, none⟩ = some (.int .i64 s9.i) := box_val B9.out 0 rfl; have c9P : u7.cell? ⟨b9, 1, none⟩ = some (.slice s9.P.p s9.P.n s9.P.c) := box_val B9.out 1 rfl; have c9t : u7.cell? ⟨b9, 2, none⟩ = some (.int .i64 s9.t) := box_val B9.out 2 rfl; have c9v : u7.cell? ⟨b9, 3, none⟩ = some (.int .i64 s9.v) := box_val B9.out 3 rfl; have c9r : u7.cell? ⟨b9, 4, none⟩ = some (.int .i64 s9.r) := box_val B9.out 4 rfl; have c9L : u7.cell? ⟨b9, 5, none⟩ = some (.slice s9.L.p s9.L.n s9.L.c) := box_val B9.out 5 rfl; have c9c : u7.cell? ⟨b9, 6, none⟩ = some (.int .i64 s9.c) := box_val B9.out 6 rfl; have c9V : u7.cell? ⟨b9, 7, none⟩ = some (.slice s9.V.p s9.V.n s9.V.c) := box_val B9.out 7 rfl; have c9N : u7.cell? ⟨b9, 8, none⟩ = some (.slice s9.N.p s9.N.n s9.N.c) := box_val B9.out 8 rfl; have c9M : u7.cell? ⟨b9, 9, none⟩ = some (.slice s9.M.p s9.M.n s9.M.c) := box_val B9.out 9 rfl)
  refine (begin_any s9 _ (by rw [show s9.i = 2 from H9.out.i]; rfl) (by rw [show s9.t = 5 from H9.out.t]; omega) (by rw [show s9.t = 5 from H9.out.t]; omega)).mono ?_
  rintro e w8 ⟨⟨s11, b, rfl, _, _, h11⟩, hx1⟩
  have HX := Lib.hid hx1
  replace H0 := Lib.hid (H0.out.ext HX.out)
  replace H1 := Lib.hid (H1.out.ext HX.out)
  replace Ha := Lib.hid (Ha.out.ext HX.out)
  replace H3 := Lib.hid (H3.out.ext HX.out)
  replace H5 := Lib.hid (H5.out.ext HX.out)
  replace H7 := Lib.hid (H7.out.ext HX.out)
  replace H9 := Lib.hid (H9.out.ext HX.out)
  replace B1 := Lib.hid (B1.out.ext HX.out)
  replace B3 := Lib.hid (B3.out.ext HX.out)
  replace B5 := Lib.hid (B5.out.ext HX.out)
  replace B7 := Lib.hid (B7.out.ext HX.out)
  replace B9 := Lib.hid (B9.out.ext HX.out)
  replace hx := Ext.trans hx HX.out
  have H11 : Hid (SeatR w8 s11 D11) := Lib.hid (h11 _ _ H9.out rfl)
  clear hx1 h11 HX
  unfold seatA
  clear c9i c9P c9t c9v c9r c9L c9c c9V c9N c9M
  have HBX : Hid (BoxAt ((w8.alloc (.cells #[.int .i64 0, .slice none 0 0, .int .i64 0, .int .i64 0, .int .i64 0, .slice none 0 0, .int .i64 0, .slice none 0 0, .slice none 0 0, .slice none 0 0] 25)).setRow w8.heap.size #[.int .i64 s11.i, .slice s11.P.p s11.P.n s11.P.c, .int .i64 s11.t, .int .i64 s11.v, .int .i64 s11.r, .slice s11.L.p s11.L.n s11.L.c, .int .i64 s11.c, .slice s11.V.p s11.V.n s11.V.c, .slice s11.N.p s11.N.n s11.N.c, .slice s11.M.p s11.M.n s11.M.c]) w8.heap.size s11 ∧ Ext w8 ((w8.alloc (.cells #[.int .i64 0, .slice none 0 0, .int .i64 0, .int .i64 0, .int .i64 0, .slice none 0 0, .int .i64 0, .slice none 0 0, .slice none 0 0, .slice none 0 0] 25)).setRow w8.heap.size #[.int .i64 s11.i, .slice s11.P.p s11.P.n s11.P.c, .int .i64 s11.t, .int .i64 s11.v, .int .i64 s11.r, .slice s11.L.p s11.L.n s11.L.c, .int .i64 s11.c, .slice s11.V.p s11.V.n s11.V.c, .slice s11.N.p s11.N.n s11.N.c, .slice s11.M.p s11.M.n s11.M.c])) := Lib.hid (box_new w8 s11)
  have HZ := Lib.hid (box_zero w8)
  go_wp2_with ((with_reducible refine wpList_store_row (o := ⟨none, .store 25 (.tmp 11) (.tmp 44), _, _, _, _⟩) ?_ 25 (.tmp 11) (.tmp 44) ?_ w8.heap.size #[.int .i64 s11.i, .slice s11.P.p s11.P.n s11.P.c, .int .i64 s11.t, .int .i64 s11.v, .int .i64 s11.r, .slice s11.L.p s11.L.n s11.L.c, .int .i64 s11.c, .slice s11.V.p s11.V.n s11.V.c, .slice s11.N.p s11.N.n s11.N.c, .slice s11.M.p s11.M.n s11.M.c] ?_ ?_ 25 #[.int .i64 0, .slice none 0 0, .int .i64 0, .int .i64 0, .int .i64 0, .slice none 0 0, .int .i64 0, .slice none 0 0, .slice none 0 0, .slice none 0 0] ?_ ?_ ?_ ?_ ?_); (exact rfl); (exact rfl); (exact rfl); (exact rfl); (exact HZ.out); (exact info_seat); (exact rfl); (exact seat_one s11); generalize (w8.alloc (.cells #[.int .i64 0, .slice none 0 0, .int .i64 0, .int .i64 0, .int .i64 0, .slice none 0 0, .int .i64 0, .slice none 0 0, .slice none 0 0, .slice none 0 0] 25)).setRow w8.heap.size #[.int .i64 s11.i, .slice s11.P.p s11.P.n s11.P.c, .int .i64 s11.t, .int .i64 s11.v, .int .i64 s11.r, .slice s11.L.p s11.L.n s11.L.c, .int .i64 s11.c, .slice s11.V.p s11.V.n s11.V.c, .slice s11.N.p s11.N.n s11.N.c, .slice s11.M.p s11.M.n s11.M.c] = u8 at HBX ⊢; generalize w8.heap.size = b11 at HBX ⊢; have B11 := Lib.hid HBX.out.1; have HX := Lib.hid HBX.out.2; replace H0 := Lib.hid (H0.out.ext HX.out); replace H1 := Lib.hid (H1.out.ext HX.out); replace Ha := Lib.hid (Ha.out.ext HX.out); replace H3 := Lib.hid (H3.out.ext HX.out); replace H5 := Lib.hid (H5.out.ext HX.out); replace H7 := Lib.hid (H7.out.ext HX.out); replace H9 := Lib.hid (H9.out.ext HX.out); replace H11 := Lib.hid (H11.out.ext HX.out); replace B1 := Lib.hid (B1.out.ext HX.out); replace B3 := Lib.hid (B3.out.ext HX.out); replace B5 := Lib.hid (B5.out.ext HX.out); replace B7 := Lib.hid (B7.out.ext HX.out); replace B9 := Lib.hid (B9.out.ext HX.out); replace hx := Ext.trans hx HX.out; clear HX HBX HZ; have c11i : u8.cell? ⟨b11, 0, none⟩ = some (.int .i64 s11.i) := box_val B11.out 0 rfl; have c11P : u8.cell? ⟨b11, 1, none⟩ = some (.slice s11.P.p s11.P.n s11.P.c) := box_val B11.out 1 rfl; have c11t : u8.cell? ⟨b11, 2, none⟩ = some (.int .i64 s11.t) := box_val B11.out 2 rfl; have c11v : u8.cell? ⟨b11, 3, none⟩ = some (.int .i64 s11.v) := box_val B11.out 3 rfl; have c11r : u8.cell? ⟨b11, 4, none⟩ = some (.int .i64 s11.r) := box_val B11.out 4 rfl; have c11L : u8.cell? ⟨b11, 5, none⟩ = some (.slice s11.L.p s11.L.n s11.L.c) := box_val B11.out 5 rfl; have c11c : u8.cell? ⟨b11, 6, none⟩ = some (.int .i64 s11.c) := box_val B11.out 6 rfl; have c11V : u8.cell? ⟨b11, 7, none⟩ = some (.slice s11.V.p s11.V.n s11.V.c) := box_val B11.out 7 rfl; have c11N : u8.cell? ⟨b11, 8, none⟩ = some (.slice s11.N.p s11.N.n s11.N.c) := box_val B11.out 8 rfl; have c11M : u8.cell? ⟨b11, 9, none⟩ = some (.slice s11.M.p s11.M.n s11.M.c) := box_val B11.out 9 rfl)
  refine (down_any s11 _ 9).mono ?_
  rintro e w9 ⟨⟨s12, rfl, h12⟩, hx1⟩
  have HX := Lib.hid hx1
  replace H0 := Lib.hid (H0.out.ext HX.out)
  replace H1 := Lib.hid (H1.out.ext HX.out)
  replace Ha := Lib.hid (Ha.out.ext HX.out)
  replace H3 := Lib.hid (H3.out.ext HX.out)
  replace H5 := Lib.hid (H5.out.ext HX.out)
  replace H7 := Lib.hid (H7.out.ext HX.out)
  replace H9 := Lib.hid (H9.out.ext HX.out)
  replace H11 := Lib.hid (H11.out.ext HX.out)
  replace B1 := Lib.hid (B1.out.ext HX.out)
  replace B3 := Lib.hid (B3.out.ext HX.out)
  replace B5 := Lib.hid (B5.out.ext HX.out)
  replace B7 := Lib.hid (B7.out.ext HX.out)
  replace B9 := Lib.hid (B9.out.ext HX.out)
  replace B11 := Lib.hid (B11.out.ext HX.out)
  replace hx := Ext.trans hx HX.out
  have H12 : Hid (SeatR w9 s12 D12) := Lib.hid (h12 _ _ H11.out)
  clear hx1 h12 HX
  unfold seatA
  clear c11i c11P c11t c11v c11r c11L c11c c11V c11N c11M
  have HBX : Hid (BoxAt ((w9.alloc (.cells #[.int .i64 0, .slice none 0 0, .int .i64 0, .int .i64 0, .int .i64 0, .slice none 0 0, .int .i64 0, .slice none 0 0, .slice none 0 0, .slice none 0 0] 25)).setRow w9.heap.size #[.int .i64 s12.i, .slice s12.P.p s12.P.n s12.P.c, .int .i64 s12.t, .int .i64 s12.v, .int .i64 s12.r, .slice s12.L.p s12.L.n s12.L.c, .int .i64 s12.c, .slice s12.V.p s12.V.n s12.V.c, .slice s12.N.p s12.N.n s12.N.c, .slice s12.M.p s12.M.n s12.M.c]) w9.heap.size s12 ∧ Ext w9 ((w9.alloc (.cells #[.int .i64 0, .slice none 0 0, .int .i64 0, .int .i64 0, .int .i64 0, .slice none 0 0, .int .i64 0, .slice none 0 0, .slice none 0 0, .slice none 0 0] 25)).setRow w9.heap.size #[.int .i64 s12.i, .slice s12.P.p s12.P.n s12.P.c, .int .i64 s12.t, .int .i64 s12.v, .int .i64 s12.r, .slice s12.L.p s12.L.n s12.L.c, .int .i64 s12.c, .slice s12.V.p s12.V.n s12.V.c, .slice s12.N.p s12.N.n s12.N.c, .slice s12.M.p s12.M.n s12.M.c])) := Lib.hid (box_new w9 s12)
  have HZ := Lib.hid (box_zero w9)
  go_wp2_with ((with_reducible refine wpList_store_row (o := ⟨none, .store 25 (.tmp 12) (.tmp 46), _, _, _, _⟩) ?_ 25 (.tmp 12) (.tmp 46) ?_ w9.heap.size #[.int .i64 s12.i, .slice s12.P.p s12.P.n s12.P.c, .int .i64 s12.t, .int .i64 s12.v, .int .i64 s12.r, .slice s12.L.p s12.L.n s12.L.c, .int .i64 s12.c, .slice s12.V.p s12.V.n s12.V.c, .slice s12.N.p s12.N.n s12.N.c, .slice s12.M.p s12.M.n s12.M.c] ?_ ?_ 25 #[.int .i64 0, .slice none 0 0, .int .i64 0, .int .i64 0, .int .i64 0, .slice none 0 0, .int .i64 0, .slice none 0 0, .slice none 0 0, .slice none 0 0] ?_ ?_ ?_ ?_ ?_); (exact rfl); (exact rfl); (exact rfl); (exact rfl); (exact HZ.out); (exact info_seat); (exact rfl); (exact seat_one s12); generalize (w9.alloc (.cells #[.int .i64 0, .slice none 0 0, .int .i64 0, .int .i64 0, .int .i64 0, .slice none 0 0, .int .i64 0, .slice none 0 0, .slice none 0 0, .slice none 0 0] 25)).setRow w9.heap.size #[.int .i64 s12.i, .slice s12.P.p s12.P.n s12.P.c, .int .i64 s12.t, .int .i64 s12.v, .int .i64 s12.r, .slice s12.L.p s12.L.n s12.L.c, .int .i64 s12.c, .slice s12.V.p s12.V.n s12.V.c, .slice s12.N.p s12.N.n s12.N.c, .slice s12.M.p s12.M.n s12.M.c] = u9 at HBX ⊢; generalize w9.heap.size = b12 at HBX ⊢; have B12 := Lib.hid HBX.out.1; have HX := Lib.hid HBX.out.2; replace H0 := Lib.hid (H0.out.ext HX.out); replace H1 := Lib.hid (H1.out.ext HX.out); replace Ha := Lib.hid (Ha.out.ext HX.out); replace H3 := Lib.hid (H3.out.ext HX.out); replace H5 := Lib.hid (H5.out.ext HX.out); replace H7 := Lib.hid (H7.out.ext HX.out); replace H9 := Lib.hid (H9.out.ext HX.out); replace H11 := Lib.hid (H11.out.ext HX.out); replace H12 := Lib.hid (H12.out.ext HX.out); replace B1 := Lib.hid (B1.out.ext HX.out); replace B3 := Lib.hid (B3.out.ext HX.out); replace B5 := Lib.hid (B5.out.ext HX.out); replace B7 := Lib.hid (B7.out.ext HX.out); replace B9 := Lib.hid (B9.out.ext HX.out); replace B11 := Lib.hid (B11.out.ext HX.out); replace hx := Ext.trans hx HX.out; clear HX HBX HZ; have c11i : u9.cell? ⟨b11, 0, none⟩ = some (.int .i64 s11.i) := box_val B11.out 0 rfl; have c11P : u9.cell? ⟨b11, 1, none⟩ = some (.slice s11.P.p s11.P.n s11.P.c) := box_val B11.out 1 rfl; have c11t : u9.cell? ⟨b11, 2, none⟩ = some (.int .i64 s11.t) := box_val B11.out 2 rfl; have c11v : u9.cell? ⟨b11, 3, none⟩ = some (.int .i64 s11.v) := box_val B11.out 3 rfl; have c11r : u9.cell? ⟨b11, 4, none⟩ = some (.int .i64 s11.r) := box_val B11.out 4 rfl; have c11L : u9.cell? ⟨b11, 5, none⟩ = some (.slice s11.L.p s11.L.n s11.L.c) := box_val B11.out 5 rfl; have c11c : u9.cell? ⟨b11, 6, none⟩ = some (.int .i64 s11.c) := box_val B11.out 6 rfl; have c11V : u9.cell? ⟨b11, 7, none⟩ = some (.slice s11.V.p s11.V.n s11.V.c) := box_val B11.out 7 rfl; have c11N : u9.cell? ⟨b11, 8, none⟩ = some (.slice s11.N.p s11.N.n s11.N.c) := box_val B11.out 8 rfl; have c11M : u9.cell? ⟨b11, 9, none⟩ = some (.slice s11.M.p s11.M.n s11.M.c) := box_val B11.out 9 rfl)
  refine (ask_any s11 D11 _ H11.out 6 1 9 9).mono ?_
  rw [show askB D11 6 1 9 9 = false by decide]
  rintro e w10 ⟨⟨s13, rfl, h13⟩, hx1⟩
  have HX := Lib.hid hx1
  replace H0 := Lib.hid (H0.out.ext HX.out)
  replace H1 := Lib.hid (H1.out.ext HX.out)
  replace Ha := Lib.hid (Ha.out.ext HX.out)
  replace H3 := Lib.hid (H3.out.ext HX.out)
  replace H5 := Lib.hid (H5.out.ext HX.out)
  replace H7 := Lib.hid (H7.out.ext HX.out)
  replace H9 := Lib.hid (H9.out.ext HX.out)
  replace H11 := Lib.hid (H11.out.ext HX.out)
  replace H12 := Lib.hid (H12.out.ext HX.out)
  replace B1 := Lib.hid (B1.out.ext HX.out)
  replace B3 := Lib.hid (B3.out.ext HX.out)
  replace B5 := Lib.hid (B5.out.ext HX.out)
  replace B7 := Lib.hid (B7.out.ext HX.out)
  replace B9 := Lib.hid (B9.out.ext HX.out)
  replace B11 := Lib.hid (B11.out.ext HX.out)
  replace B12 := Lib.hid (B12.out.ext HX.out)
  replace hx := Ext.trans hx HX.out
  have H13 : Hid (SeatR w10 s13 D13) := Lib.hid (h13 _ _ H11.out)
  clear hx1 h13 HX
  unfold seatA
  clear c11i c11P c11t c11v c11r c11L c11c c11V c11N c11M
  have HBX : Hid (BoxAt ((w10.alloc (.cells #[.int .i64 0, .slice none 0 0, .int .i64 0, .int .i64 0, .int .i64 0, .slice none 0 0, .int .i64 0, .slice none 0 0, .slice none 0 0, .slice none 0 0] 25)).setRow w10.heap.size #[.int .i64 s13.i, .slice s13.P.p s13.P.n s13.P.c, .int .i64 s13.t, .int .i64 s13.v, .int .i64 s13.r, .slice s13.L.p s13.L.n s13.L.c, .int .i64 s13.c, .slice s13.V.p s13.V.n s13.V.c, .slice s13.N.p s13.N.n s13.N.c, .slice s13.M.p s13.M.n s13.M.c]) w10.heap.size s13 ∧ Ext w10 ((w10.alloc (.cells #[.int .i64 0, .slice none 0 0, .int .i64 0, .int .i64 0, .int .i64 0, .slice none 0 0, .int .i64 0, .slice none 0 0, .slice none 0 0, .slice none 0 0] 25)).setRow w10.heap.size #[.int .i64 s13.i, .slice s13.P.p s13.P.n s13.P.c, .int .i64 s13.t, .int .i64 s13.v, .int .i64 s13.r, .slice s13.L.p s13.L.n s13.L.c, .int .i64 s13.c, .slice s13.V.p s13.V.n s13.V.c, .slice s13.N.p s13.N.n s13.N.c, .slice s13.M.p s13.M.n s13.M.c])) := Lib.hid (box_new w10 s13)
  have HZ := Lib.hid (box_zero w10)
  go_wp2_with ((with_reducible refine wpList_store_row (o := ⟨none, .store 25 (.tmp 13) (.tmp 50), _, _, _, _⟩) ?_ 25 (.tmp 13) (.tmp 50) ?_ w10.heap.size #[.int .i64 s13.i, .slice s13.P.p s13.P.n s13.P.c, .int .i64 s13.t, .int .i64 s13.v, .int .i64 s13.r, .slice s13.L.p s13.L.n s13.L.c, .int .i64 s13.c, .slice s13.V.p s13.V.n s13.V.c, .slice s13.N.p s13.N.n s13.N.c, .slice s13.M.p s13.M.n s13.M.c] ?_ ?_ 25 #[.int .i64 0, .slice none 0 0, .int .i64 0, .int .i64 0, .int .i64 0, .slice none 0 0, .int .i64 0, .slice none 0 0, .slice none 0 0, .slice none 0 0] ?_ ?_ ?_ ?_ ?_); (exact rfl); (exact rfl); (exact rfl); (exact rfl); (exact HZ.out); (exact info_seat); (exact rfl); (exact seat_one s13); generalize (w10.alloc (.cells #[.int .i64 0, .slice none 0 0, .int .i64 0, .int .i64 0, .int .i64 0, .slice none 0 0, .int .i64 0, .slice none 0 0, .slice none 0 0, .slice none 0 0] 25)).setRow w10.heap.size #[.int .i64 s13.i, .slice s13.P.p s13.P.n s13.P.c, .int .i64 s13.t, .int .i64 s13.v, .int .i64 s13.r, .slice s13.L.p s13.L.n s13.L.c, .int .i64 s13.c, .slice s13.V.p s13.V.n s13.V.c, .slice s13.N.p s13.N.n s13.N.c, .slice s13.M.p s13.M.n s13.M.c] = u10 at HBX ⊢; generalize w10.heap.size = b13 at HBX ⊢; have B13 := Lib.hid HBX.out.1; have HX := Lib.hid HBX.out.2; replace H0 := Lib.hid (H0.out.ext HX.out); replace H1 := Lib.hid (H1.out.ext HX.out); replace Ha := Lib.hid (Ha.out.ext HX.out); replace H3 := Lib.hid (H3.out.ext HX.out); replace H5 := Lib.hid (H5.out.ext HX.out); replace H7 := Lib.hid (H7.out.ext HX.out); replace H9 := Lib.hid (H9.out.ext HX.out); replace H11 := Lib.hid (H11.out.ext HX.out); replace H12 := Lib.hid (H12.out.ext HX.out); replace H13 := Lib.hid (H13.out.ext HX.out); replace B1 := Lib.hid (B1.out.ext HX.out); replace B3 := Lib.hid (B3.out.ext HX.out); replace B5 := Lib.hid (B5.out.ext HX.out); replace B7 := Lib.hid (B7.out.ext HX.out); replace B9 := Lib.hid (B9.out.ext HX.out); replace B11 := Lib.hid (B11.out.ext HX.out); replace B12 := Lib.hid (B12.out.ext HX.out); replace hx := Ext.trans hx HX.out; clear HX HBX HZ; have c1i : u10.cell? ⟨b1, 0, none⟩ = some (.int .i64 s1.i) := box_val B1.out 0 rfl; have c1P : u10.cell? ⟨b1, 1, none⟩ = some (.slice s1.P.p s1.P.n s1.P.c) := box_val B1.out 1 rfl; have c1t : u10.cell? ⟨b1, 2, none⟩ = some (.int .i64 s1.t) := box_val B1.out 2 rfl; have c1v : u10.cell? ⟨b1, 3, none⟩ = some (.int .i64 s1.v) := box_val B1.out 3 rfl; have c1r : u10.cell? ⟨b1, 4, none⟩ = some (.int .i64 s1.r) := box_val B1.out 4 rfl; have c1L : u10.cell? ⟨b1, 5, none⟩ = some (.slice s1.L.p s1.L.n s1.L.c) := box_val B1.out 5 rfl; have c1c : u10.cell? ⟨b1, 6, none⟩ = some (.int .i64 s1.c) := box_val B1.out 6 rfl; have c1V : u10.cell? ⟨b1, 7, none⟩ = some (.slice s1.V.p s1.V.n s1.V.c) := box_val B1.out 7 rfl; have c1N : u10.cell? ⟨b1, 8, none⟩ = some (.slice s1.N.p s1.N.n s1.N.c) := box_val B1.out 8 rfl; have c1M : u10.cell? ⟨b1, 9, none⟩ = some (.slice s1.M.p s1.M.n s1.M.c) := box_val B1.out 9 rfl)
  have HS : Hid (∀ w', Ext u10 w' → w'.cell? ⟨b1, 0, none⟩ = some (.int .i64 s1.i) ∧ w'.cell? ⟨b1, 1, none⟩ = some (.slice s1.P.p s1.P.n s1.P.c) ∧ w'.cell? ⟨b1, 2, none⟩ = some (.int .i64 s1.t) ∧ w'.cell? ⟨b1, 3, none⟩ = some (.int .i64 s1.v) ∧ w'.cell? ⟨b1, 4, none⟩ = some (.int .i64 s1.r) ∧ w'.cell? ⟨b1, 5, none⟩ = some (.slice s1.L.p s1.L.n s1.L.c) ∧ w'.cell? ⟨b1, 6, none⟩ = some (.int .i64 s1.c) ∧ w'.cell? ⟨b1, 7, none⟩ = some (.slice s1.V.p s1.V.n s1.V.c) ∧ w'.cell? ⟨b1, 8, none⟩ = some (.slice s1.N.p s1.N.n s1.N.c) ∧ w'.cell? ⟨b1, 9, none⟩ = some (.slice s1.M.p s1.M.n s1.M.c)) := Lib.hid fun w' h => ⟨h.cell c1i, h.cell c1P, h.cell c1t, h.cell c1v, h.cell c1r, h.cell c1L, h.cell c1c, h.cell c1V, h.cell c1N, h.cell c1M⟩
  clear c1i c1P c1t c1v c1r c1L c1c c1V c1N c1M
  have hxx : Ext u10 u10.drew := Ext.drew (Ext.refl _)
  go_wp2
  go_region_held3 (fun w' => w'.cell? ⟨b1, 0, none⟩ = some (.int .i64 s1.i) ∧ w'.cell? ⟨b1, 1, none⟩ = some (.slice s1.P.p s1.P.n s1.P.c) ∧ w'.cell? ⟨b1, 2, none⟩ = some (.int .i64 s1.t) ∧ w'.cell? ⟨b1, 3, none⟩ = some (.int .i64 s1.v) ∧ w'.cell? ⟨b1, 4, none⟩ = some (.int .i64 s1.r) ∧ w'.cell? ⟨b1, 5, none⟩ = some (.slice s1.L.p s1.L.n s1.L.c) ∧ w'.cell? ⟨b1, 6, none⟩ = some (.int .i64 s1.c) ∧ w'.cell? ⟨b1, 7, none⟩ = some (.slice s1.V.p s1.V.n s1.V.c) ∧ w'.cell? ⟨b1, 8, none⟩ = some (.slice s1.N.p s1.N.n s1.N.c) ∧ w'.cell? ⟨b1, 9, none⟩ = some (.slice s1.M.p s1.M.n s1.M.c)) (exact HS.out _ hxx) (first | (go_at_call 25; refine (seat_any _).mono ?_; rintro e W ⟨⟨sb, rfl, hb⟩, hx1⟩; replace hxx := Ext.trans hxx hx1; unfold seatA; clear hx1) | (go_at_call 15; refine (rsame_any s1 sb (askD D0 false 3 1) D0 _ (H1.out.ext hxx) hb).mono ?_; rintro e W2 ⟨b0, rfl, hb0, hx1⟩; obtain rfl : b0 = true := hb0.2 rfl; replace hxx := Ext.trans hxx hx1; clear hx1 hb0))
  have HX := Lib.hid hxx
  replace H0 := Lib.hid (H0.out.ext HX.out)
  replace H1 := Lib.hid (H1.out.ext HX.out)
  replace Ha := Lib.hid (Ha.out.ext HX.out)
  replace H3 := Lib.hid (H3.out.ext HX.out)
  replace H5 := Lib.hid (H5.out.ext HX.out)
  replace H7 := Lib.hid (H7.out.ext HX.out)
  replace H9 := Lib.hid (H9.out.ext HX.out)
  replace H11 := Lib.hid (H11.out.ext HX.out)
  replace H12 := Lib.hid (H12.out.ext HX.out)
  replace H13 := Lib.hid (H13.out.ext HX.out)
  replace B1 := Lib.hid (B1.out.ext HX.out)
  replace B3 := Lib.hid (B3.out.ext HX.out)
  replace B5 := Lib.hid (B5.out.ext HX.out)
  replace B7 := Lib.hid (B7.out.ext HX.out)
  replace B9 := Lib.hid (B9.out.ext HX.out)
  replace B11 := Lib.hid (B11.out.ext HX.out)
  replace B12 := Lib.hid (B12.out.ext HX.out)
  replace B13 := Lib.hid (B13.out.ext HX.out)
  replace hx := Ext.trans hx HX.out
  clear HX hxx HS
  have c3i : W2.cell? ⟨b3, 0, none⟩ = some (.int .i64 s3.i) := box_val B3.out 0 rfl
  have c3P : W2.cell? ⟨b3, 1, none⟩ = some (.slice s3.P.p s3.P.n s3.P.c) := box_val B3.out 1 rfl
  have c3t : W2.cell? ⟨b3, 2, none⟩ = some (.int .i64 s3.t) := box_val B3.out 2 rfl
  have c3v : W2.cell? ⟨b3, 3, none⟩ = some (.int .i64 s3.v) := box_val B3.out 3 rfl
  have c3r : W2.cell? ⟨b3, 4, none⟩ = some (.int .i64 s3.r) := box_val B3.out 4 rfl
  have c3L : W2.cell? ⟨b3, 5, none⟩ = some (.slice s3.L.p s3.L.n s3.L.c) := box_val B3.out 5 rfl
  have c3c : W2.cell? ⟨b3, 6, none⟩ = some (.int .i64 s3.c) := box_val B3.out 6 rfl
  have c3V : W2.cell? ⟨b3, 7, none⟩ = some (.slice s3.V.p s3.V.n s3.V.c) := box_val B3.out 7 rfl
  have c3N : W2.cell? ⟨b3, 8, none⟩ = some (.slice s3.N.p s3.N.n s3.N.c) := box_val B3.out 8 rfl
  have c3M : W2.cell? ⟨b3, 9, none⟩ = some (.slice s3.M.p s3.M.n s3.M.c) := box_val B3.out 9 rfl
  have c5i : W2.cell? ⟨b5, 0, none⟩ = some (.int .i64 s5.i) := box_val B5.out 0 rfl
  have c5P : W2.cell? ⟨b5, 1, none⟩ = some (.slice s5.P.p s5.P.n s5.P.c) := box_val B5.out 1 rfl
  have c5t : W2.cell? ⟨b5, 2, none⟩ = some (.int .i64 s5.t) := box_val B5.out 2 rfl
  have c5v : W2.cell? ⟨b5, 3, none⟩ = some (.int .i64 s5.v) := box_val B5.out 3 rfl
  have c5r : W2.cell? ⟨b5, 4, none⟩ = some (.int .i64 s5.r) := box_val B5.out 4 rfl
  have c5L : W2.cell? ⟨b5, 5, none⟩ = some (.slice s5.L.p s5.L.n s5.L.c) := box_val B5.out 5 rfl
  have c5c : W2.cell? ⟨b5, 6, none⟩ = some (.int .i64 s5.c) := box_val B5.out 6 rfl
  have c5V : W2.cell? ⟨b5, 7, none⟩ = some (.slice s5.V.p s5.V.n s5.V.c) := box_val B5.out 7 rfl
  have c5N : W2.cell? ⟨b5, 8, none⟩ = some (.slice s5.N.p s5.N.n s5.N.c) := box_val B5.out 8 rfl
  have c5M : W2.cell? ⟨b5, 9, none⟩ = some (.slice s5.M.p s5.M.n s5.M.c) := box_val B5.out 9 rfl
  go_wp2_with fail
  refine (rsame_any s3 s5 D3 D5 _ H3.out H5.out).mono ?_
  rintro e w11 ⟨b0, rfl, hb0, hx1⟩
  obtain rfl : b0 = true := hb0.2 rfl
  have HX := Lib.hid hx1
  replace H0 := Lib.hid (H0.out.ext HX.out)
  replace H1 := Lib.hid (H1.out.ext HX.out)
  replace Ha := Lib.hid (Ha.out.ext HX.out)
  replace H3 := Lib.hid (H3.out.ext HX.out)
  replace H5 := Lib.hid (H5.out.ext HX.out)
  replace H7 := Lib.hid (H7.out.ext HX.out)
  replace H9 := Lib.hid (H9.out.ext HX.out)
  replace H11 := Lib.hid (H11.out.ext HX.out)
  replace H12 := Lib.hid (H12.out.ext HX.out)
  replace H13 := Lib.hid (H13.out.ext HX.out)
  replace B1 := Lib.hid (B1.out.ext HX.out)
  replace B3 := Lib.hid (B3.out.ext HX.out)
  replace B5 := Lib.hid (B5.out.ext HX.out)
  replace B7 := Lib.hid (B7.out.ext HX.out)
  replace B9 := Lib.hid (B9.out.ext HX.out)
  replace B11 := Lib.hid (B11.out.ext HX.out)
  replace B12 := Lib.hid (B12.out.ext HX.out)
  replace B13 := Lib.hid (B13.out.ext HX.out)
  replace hx := Ext.trans hx HX.out
  clear hx1 hb0 HX
  have cV11 : w11.cell? ⟨b11, 7, none⟩ = some (.slice s11.V.p s11.V.n s11.V.c) := box_val B11.out 7 rfl
  go_wp2_with fail
  refine (rints_any s11.V.p _ s11.V.n s11.V.c 1 1 [2] [2] _ ((H11.out.ext (Ext.alloc _ _)).V.1.ints.1) (rowI_lit [2] rfl rfl rfl (Ext.refl _) (by omega))).mono ?_
  rintro e w12 ⟨rfl, hx1⟩
  rw [show decide (([2] : List Int) = [2]) = true by decide]
  have HX := Lib.hid (Ext.trans (Ext.alloc w11 _) hx1)
  replace H0 := Lib.hid (H0.out.ext HX.out)
  replace H1 := Lib.hid (H1.out.ext HX.out)
  replace Ha := Lib.hid (Ha.out.ext HX.out)
  replace H3 := Lib.hid (H3.out.ext HX.out)
  replace H5 := Lib.hid (H5.out.ext HX.out)
  replace H7 := Lib.hid (H7.out.ext HX.out)
  replace H9 := Lib.hid (H9.out.ext HX.out)
  replace H11 := Lib.hid (H11.out.ext HX.out)
  replace H12 := Lib.hid (H12.out.ext HX.out)
  replace H13 := Lib.hid (H13.out.ext HX.out)
  replace B1 := Lib.hid (B1.out.ext HX.out)
  replace B3 := Lib.hid (B3.out.ext HX.out)
  replace B5 := Lib.hid (B5.out.ext HX.out)
  replace B7 := Lib.hid (B7.out.ext HX.out)
  replace B9 := Lib.hid (B9.out.ext HX.out)
  replace B11 := Lib.hid (B11.out.ext HX.out)
  replace B12 := Lib.hid (B12.out.ext HX.out)
  replace B13 := Lib.hid (B13.out.ext HX.out)
  replace hx := Ext.trans hx HX.out
  clear hx1 HX
  have f3v : w12.cell? ⟨b3, 3, none⟩ = some (.int .i64 1) := box_int B3.out 3 rfl H3.out.v
  have f7v : w12.cell? ⟨b7, 3, none⟩ = some (.int .i64 (-1)) := box_int B7.out 3 rfl H7.out.v
  have f7t : w12.cell? ⟨b7, 2, none⟩ = some (.int .i64 5) := box_int B7.out 2 rfl H7.out.t
  have f9v : w12.cell? ⟨b9, 3, none⟩ = some (.int .i64 3) := box_int B9.out 3 rfl H9.out.v
  have f11t : w12.cell? ⟨b11, 2, none⟩ = some (.int .i64 6) := box_int B11.out 2 rfl H11.out.t
  have f11r : w12.cell? ⟨b11, 4, none⟩ = some (.int .i64 2) := box_int B11.out 4 rfl H11.out.r
  have f11v : w12.cell? ⟨b11, 3, none⟩ = some (.int .i64 2) := box_int B11.out 3 rfl H11.out.v
  have f12t : w12.cell? ⟨b12, 2, none⟩ = some (.int .i64 9) := box_int B12.out 2 rfl H12.out.t
  have f12v : w12.cell? ⟨b12, 3, none⟩ = some (.int .i64 (-1)) := box_int B12.out 3 rfl H12.out.v
  have f12r : w12.cell? ⟨b12, 4, none⟩ = some (.int .i64 1) := box_int B12.out 4 rfl H12.out.r
  have f13v : w12.cell? ⟨b13, 3, none⟩ = some (.int .i64 2) := box_int B13.out 3 rfl H13.out.v
  have f12V : w12.cell? ⟨b12, 7, none⟩ = some (.slice s12.V.p 0 s12.V.c) := box_val B12.out 7 (by rw [show (0 : Nat) = s12.V.n from H12.out.V.1.1]; rfl)
  clear H0 H1 Ha H3 H5 H7 H9 H11 H12 H13 B1 B3 B5 B7 B9 B11 B12 B13
  go_wp2_with fail
  refine (won_lit (w := w12) (rowI_lit [3, 1] rfl rfl rfl (Ext.alloc _ _) (by simp)) (rowI_lit [1, 2, 3] rfl (by simp) rfl (Ext.refl _) (by simp)) (by simp) (by (unfold Ext; repeat (first | exact Below.refl _ _ | assumption | refine Below.drew ?_ | refine below_drewN ?_ _ | refine Below.alloc ?_ (by first | exact Nat.le_refl _ | (simp; done) | (simp; omega) | omega) _ | refine Below.setCell ?_ (by first | exact Nat.le_refl _ | (simp; done) | (simp; omega) | omega) _))) (show wonB [3, 1] [1, 2, 3] = true by decide)).mono ?_
  rintro e w13 ⟨rfl, hx1⟩
  replace hx := Ext.trans hx hx1
  clear hx1
  go_wp2_with fail
  refine (won_lit (w := w13) (rowI_lit [1, 2] rfl rfl rfl (Ext.alloc _ _) (by simp)) (rowI_lit [1, 2, 3, 4] rfl (by simp) rfl (Ext.refl _) (by simp)) (by simp) (by (unfold Ext; repeat (first | exact Below.refl _ _ | assumption | refine Below.drew ?_ | refine below_drewN ?_ _ | refine Below.alloc ?_ (by first | exact Nat.le_refl _ | (simp; done) | (simp; omega) | omega) _ | refine Below.setCell ?_ (by first | exact Nat.le_refl _ | (simp; done) | (simp; omega) | omega) _))) (show wonB [1, 2] [1, 2, 3, 4] = false by decide)).mono ?_
  rintro e w14 ⟨rfl, hx1⟩
  replace hx := Ext.trans hx hx1
  clear hx1
  go_wp2_with fail
  refine (won_lit (w := w14) (rowI_nil _ _) (rowI_nil _ _) (by omega) (Ext.refl _) (show wonB [] [] = false by decide)).mono ?_
  rintro e w15 ⟨rfl, hx1⟩
  replace hx := Ext.trans hx hx1
  clear hx1
  go_wp2_with fail
  refine (won_lit (w := w15) (rowI_lit [1, 1, 9] rfl rfl rfl (Ext.alloc _ _) (by simp)) (rowI_lit [1, 2, 3] rfl (by simp) rfl (Ext.refl _) (by simp)) (by simp) (by (unfold Ext; repeat (first | exact Below.refl _ _ | assumption | refine Below.drew ?_ | refine below_drewN ?_ _ | refine Below.alloc ?_ (by first | exact Nat.le_refl _ | (simp; done) | (simp; omega) | omega) _ | refine Below.setCell ?_ (by first | exact Nat.le_refl _ | (simp; done) | (simp; omega) | omega) _))) (show wonB [1, 1, 9] [1, 2, 3] = false by decide)).mono ?_
  rintro e w16 ⟨rfl, hx1⟩
  replace hx := Ext.trans hx hx1
  clear hx1
  go_wp2
  go_ret
  exact ⟨rfl, hx⟩
end Go.Proofs.Ytmcenioblbcehaa.Lg
