/- Plain lemmas on worlds and on rows of cells: nothing of a dump. -/
import Derived.Test.YtifbmkcfgpfefaaRows
import Derived.WalkKit
import Derived.WalkLawsBesides
import Derived.Lib.Hide
import Derived.Shelf.Abstract
namespace Go.Proofs.Ytifbmkcfgpfefaa
open Go.RowKit
set_option linter.unusedVariables false

theorem ret_int {k : IntKind} {a b : Int} (h : a = b) : Ending.returned (.int k a) = .returned (.int k b) := by rw [h]
theorem ret_bool {a b : Bool} (h : a = b) : Ending.returned (.bool a) = .returned (.bool b) := by rw [h]

/-- All that was there is as it was. -/
def Ext (a b : World) : Prop := Below a.heap.size a b
theorem Ext.refl (a : World) : Ext a a := Below.refl _ _
theorem Ext.trans {a b c : World} (h : Ext a b) (k : Ext b c) : Ext a c := Below.trans h (Below.mono k h.size)
theorem Ext.cell {a b : World} (h : Ext a b) {p : Addr} {v : Value} (hv : a.cell? p = some v) : b.cell? p = some v := by
  rw [← hv]; exact Below.cell h (World.block_lt_of_cell? a p hv)
theorem Ext.alloc (w : World) (o : Obj) : Ext w (w.alloc o) := (Below.refl _ _).alloc (Nat.le_refl _) _
theorem Ext.drew {a b : World} (h : Ext a b) : Ext a b.drew := Below.drew h
theorem Ext.drewN {a b : World} (h : Ext a b) (n : Nat) : Ext a (b.drewN n) := ⟨h.os, h.tape, h.output, h.size, h.block⟩
theorem new_cell (w : World) (v : Value) (t : TypeId) : (w.alloc (.cells #[v] t)).cell? ⟨w.heap.size, 0, none⟩ = some v := by
  have h := heap_alloc_new w (.cells #[v] t)
  simp only [World.cell?, h]; rfl

theorem makeFunc_run (fn : Fn) (first cap : Array Value) (w : World) : (Instr.makeFunc fn first cap).run Try.prog w = .ok (.func fn first cap) w := rfl

/-- The n-th of a list of numbers. -/
def at0 (l : List Int) (j : Nat) : Int := l.getD j 0

/-- A slice value (place p, length n) reads as the numbers l. -/
def RowI (k : IntKind) (w : World) (p : Option Addr) (n : Nat) (l : List Int) : Prop :=
  l.length = n ∧ n ≤ 9223372036854775807 ∧ (0 < n → ∃ b off, p = some ⟨b, off, none⟩ ∧ ∀ j, j < n → w.cell? ⟨b, off + j, none⟩ = some (.int k (at0 l j)))

theorem RowI.ext {k : IntKind} {w w' : World} {p : Option Addr} {n : Nat} {l : List Int} (h : RowI k w p n l) (hx : Ext w w') : RowI k w' p n l :=
  ⟨h.1, h.2.1, fun hn => by obtain ⟨b, off, hp, hc⟩ := h.2.2 hn; exact ⟨b, off, hp, fun j hj => hx.cell (hc j hj)⟩⟩

/-- The call answers a bool, just whether Q; all that was there is as it was. -/
def Tells (Q : Prop) (w : World) (e : Ending) (w' : World) : Prop := ∃ b, e = .returned (.bool b) ∧ (b = true ↔ Q) ∧ Ext w w'
theorem Tells.yes {Q : Prop} {w w' : World} (h : Q) (hx : Ext w w') : Tells Q w (.returned (.bool true)) w' := ⟨true, rfl, ⟨fun _ => h, fun _ => rfl⟩, hx⟩
theorem Tells.no {Q : Prop} {w w' : World} (h : ¬ Q) (hx : Ext w w') : Tells Q w (.returned (.bool false)) w' := ⟨false, rfl, ⟨fun k => (by cases k), fun k => absurd k h⟩, hx⟩
theorem Tells.of {Q : Prop} {b : Bool} {w w' : World} (h : b = true ↔ Q) (hx : Ext w w') : Tells Q w (.returned (.bool b)) w' := ⟨b, rfl, h, hx⟩

theorem bd_u64 {n : Int} (h : (Lit.int .u64 n).wf = true) : 0 ≤ n ∧ n < 18446744073709551616 := by
  simp [Lit.wf, IntKind.min, IntKind.max, IntKind.signed, IntKind.bits] at h; omega
theorem bd_u16 {n : Int} (h : (Lit.int .u16 n).wf = true) : 0 ≤ n ∧ n < 65536 := by
  simp [Lit.wf, IntKind.min, IntKind.max, IntKind.signed, IntKind.bits] at h; omega
theorem bd_u8 {n : Int} (h : (Lit.int .u8 n).wf = true) : 0 ≤ n ∧ n < 256 := by
  simp [Lit.wf, IntKind.min, IntKind.max, IntKind.signed, IntKind.bits] at h; omega
theorem bd_i64 {n : Int} (h : (Lit.int .i64 n).wf = true) : -9223372036854775808 ≤ n ∧ n < 9223372036854775808 := by
  simp [Lit.wf, IntKind.min, IntKind.max, IntKind.signed, IntKind.bits] at h; omega

/-- A slice value (place p, length n) reads as the bytes l. -/
def RowB (w : World) (p : Option Addr) (n : Nat) (l : List Nat) : Prop := RowI .u8 w p n (l.map fun x : Nat => (x : Int)) ∧ ∀ c ∈ l, c < 256
theorem RowB.ext {w w' : World} {p : Option Addr} {n : Nat} {l : List Nat} (h : RowB w p n l) (hx : Ext w w') : RowB w' p n l := ⟨h.1.ext hx, h.2⟩
theorem RowB.length {w : World} {p : Option Addr} {n : Nat} {l : List Nat} (h : RowB w p n l) : l.length = n := by simpa using h.1.1
theorem RowB.le {w : World} {p : Option Addr} {n : Nat} {l : List Nat} (h : RowB w p n l) : n ≤ 9223372036854775807 := h.1.2.1
theorem at0_map (l : List Nat) (j : Nat) : at0 (l.map fun x : Nat => (x : Int)) j = (l.getD j 0 : Nat) := by
  unfold at0
  simp only [List.getD_eq_getElem?_getD, List.getElem?_map]
  cases l[j]? <;> rfl
theorem RowB.cells {w : World} {p : Option Addr} {n : Nat} {l : List Nat} (h : RowB w p n l) (hn : 0 < n) : ∃ b off, p = some ⟨b, off, none⟩ ∧ ∀ j, j < n → w.cell? ⟨b, off + j, none⟩ = some (.int .u8 (l.getD j 0 : Nat)) := by
  obtain ⟨b, off, hp, hc⟩ := h.1.2.2 hn
  exact ⟨b, off, hp, fun j hj => by rw [hc j hj, at0_map]⟩
theorem byte_lt {l : List Nat} (h : ∀ c ∈ l, c < 256) (j : Nat) : l.getD j 0 < 256 := by
  rw [List.getD_eq_getElem?_getD]
  cases e : l[j]? with
  | none => simp
  | some c => exact h c (List.mem_of_getElem? e)
theorem take_succ_getD (l : List Nat) (k : Nat) (h : k < l.length) : l.take (k + 1) = l.take k ++ [l.getD k 0] := by
  rw [List.take_succ_eq_append_getElem h, List.getD_eq_getElem?_getD, List.getElem?_eq_getElem h]; rfl
/-- bytes that came in -/
theorem RowB.of {w : World} {p : Option Addr} {n : Nat} {z : List Int} (h : RowI .u8 w p n z) (hw : ∀ x ∈ z, (Lit.int .u8 x).wf = true) : RowB w p n (z.map Int.toNat) := by
  have e : (z.map Int.toNat).map (fun x : Nat => (x : Int)) = z := by
    rw [List.map_map]
    conv => rhs; rw [← List.map_id z]
    refine List.map_congr_left fun x hx => ?_
    have := bd_u8 (hw x hx)
    simp; omega
  refine ⟨by rw [e]; exact h, fun c hc => ?_⟩
  obtain ⟨x, hx, rfl⟩ := List.mem_map.1 hc
  have := bd_u8 (hw x hx)
  omega
end Go.Proofs.Ytifbmkcfgpfefaa
