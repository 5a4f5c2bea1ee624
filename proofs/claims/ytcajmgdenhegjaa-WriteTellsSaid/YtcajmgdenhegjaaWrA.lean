/- Written bytes: how pieces and stored files lie. -/
import Derived.Test.YtcajmgdenhegjaaWrS
import Derived.Test.YtcajmgdenhegjaaRep
import Derived.BigQuiet
import Derived.IntWalk
namespace Go.Proofs.Ytcajmgdenhegjaa.Wr
open Go.RowKit Go.Proofs.Ytcajmgdenhegjaa
set_option linter.unusedVariables false

def LB : Lay (List Int) := Lay.slice (Lay.int .u8)
def LTri : Lay (Int × Int × List Int) := (Lay.int .i64).pair ((Lay.int .i64).pair LB)
def LPc : Lay Pc where
  size := 3
  pos := by omega
  R := fun w cs x => LTri.R w cs (x.i, x.f, x.d)
  len := fun h => LTri.len h
  ext := fun h k => LTri.ext h k
  one := fun h => LTri.one h
def LSf : Lay Sf where
  size := 3
  pos := by omega
  R := fun w cs x => LTri.R w cs (x.i, x.e, x.d)
  len := fun h => LTri.len h
  ext := fun h k => LTri.ext h k
  one := fun h => LTri.one h
/-- three cells: two numbers, and bytes -/
structure TriC (w : World) (cs : List Value) (a b : Int) (d : List Int) (p : Option Addr) (n c : Nat) : Prop where
  eq : cs = [.int .i64 a, .int .i64 b, .slice p n c]
  wa : (Lit.int .i64 a).wf = true
  wb : (Lit.int .i64 b).wf = true
  row : (Lay.int .u8).Row w p n d
  nc : n ≤ c
  cm : c ≤ 9223372036854775807
  pl : Pl p c
theorem tri_cells {w : World} {cs : List Value} {a b : Int} {d : List Int} (h : LTri.R w cs (a, b, d)) : ∃ p n c, TriC w cs a b d p n c := by
  obtain ⟨x, y, rfl, ⟨rfl, hw⟩, x2, y2, rfl, ⟨rfl, hw2⟩, v, rfl, p, n, c, rfl, h1, h2, h3, h4⟩ := h
  exact ⟨p, n, c, rfl, hw, hw2, h1, h2, h3, h4⟩
theorem TriC.tri {w : World} {cs : List Value} {a b : Int} {d : List Int} {p : Option Addr} {n c : Nat} (h : TriC w cs a b d p n c) : LTri.R w cs (a, b, d) := by
  obtain ⟨rfl, hw, hw2, h1, h2, h3, h4⟩ := h
  exact ⟨_, _, rfl, ⟨rfl, hw⟩, _, _, rfl, ⟨rfl, hw2⟩, _, rfl, p, n, c, rfl, h1, h2, h3, h4⟩
theorem tri_at {α : Type} {E : Lay α} (hE : E.size = 3) {fa fb : α → Int} {fd : α → List Int} (hR : ∀ w cs x, E.R w cs x → LTri.R w cs (fa x, fb x, fd x))
    {w : World} {p : Option Addr} {n : Nat} {l : List α} (h : E.Row w p n l) {j : Nat} {x : α} (hj : l[j]? = some x) :
    ∃ b off q m c, p = some ⟨b, off, none⟩ ∧ w.cell? ⟨b, off + j * 3, none⟩ = some (.int .i64 (fa x)) ∧ w.cell? ⟨b, off + j * 3 + 1, none⟩ = some (.int .i64 (fb x)) ∧ w.cell? ⟨b, off + j * 3 + 2, none⟩ = some (.slice q m c) ∧
      TriC w [.int .i64 (fa x), .int .i64 (fb x), .slice q m c] (fa x) (fb x) (fd x) q m c := by
  obtain ⟨b, off, y, cs, rfl, hy, hr, hc⟩ := h.get (j := j) (by rw [← h.1]; exact (List.getElem?_eq_some_iff.1 hj).1)
  obtain rfl : x = y := by simpa [hj] using hy
  obtain ⟨q, m, c, ht⟩ := tri_cells (hR _ _ _ hr)
  obtain rfl := ht.eq
  rw [hE] at hc
  exact ⟨b, off, q, m, c, rfl, hc 0 _ rfl, hc 1 _ rfl, hc 2 _ rfl, ht⟩
theorem pc_at {w : World} {p : Option Addr} {n : Nat} {l : List Pc} (h : LPc.Row w p n l) {j : Nat} {x : Pc} (hj : l[j]? = some x) :
    ∃ b off q m c, p = some ⟨b, off, none⟩ ∧ w.cell? ⟨b, off + j * 3, none⟩ = some (.int .i64 x.i) ∧ w.cell? ⟨b, off + j * 3 + 1, none⟩ = some (.int .i64 x.f) ∧ w.cell? ⟨b, off + j * 3 + 2, none⟩ = some (.slice q m c) ∧
      TriC w [.int .i64 x.i, .int .i64 x.f, .slice q m c] x.i x.f x.d q m c :=
  tri_at (E := LPc) rfl (fa := Pc.i) (fb := Pc.f) (fd := Pc.d) (fun _ _ _ h => h) h hj
theorem sf_at {w : World} {p : Option Addr} {n : Nat} {l : List Sf} (h : LSf.Row w p n l) {j : Nat} {x : Sf} (hj : l[j]? = some x) :
    ∃ b off q m c, p = some ⟨b, off, none⟩ ∧ w.cell? ⟨b, off + j * 3, none⟩ = some (.int .i64 x.i) ∧ w.cell? ⟨b, off + j * 3 + 1, none⟩ = some (.int .i64 x.e) ∧ w.cell? ⟨b, off + j * 3 + 2, none⟩ = some (.slice q m c) ∧
      TriC w [.int .i64 x.i, .int .i64 x.e, .slice q m c] x.i x.e x.d q m c :=
  tri_at (E := LSf) rfl (fa := Sf.i) (fb := Sf.e) (fd := Sf.d) (fun _ _ _ h => h) h hj
theorem opens_int : Lay.Opens 3 (Lay.int .i64) := Lay.Opens.int Try.underlying3 (by kernel_rfl)
theorem opens_u8 : Lay.Opens 5 (Lay.int .u8) := Lay.Opens.int Try.underlying5 (by kernel_rfl)
theorem opens_bytes : Lay.Opens 23 LB := Lay.Opens.slice Try.underlying23 (by kernel_rfl) opens_u8
theorem opens_tri_pc : Lay.Opens 30 LTri := Lay.Opens.struct Try.underlying30 rfl (by kernel_rfl) (Lay.OpensFs.cons rfl opens_int (Lay.OpensFs.cons rfl opens_int (Lay.OpensFs.last rfl opens_bytes)))
theorem opens_tri_sf : Lay.Opens 51 LTri := Lay.Opens.struct Try.underlying51 rfl (by kernel_rfl) (Lay.OpensFs.cons rfl opens_int (Lay.OpensFs.cons rfl opens_int (Lay.OpensFs.last rfl opens_bytes)))
theorem opens_pc : Lay.Opens 30 LPc := ⟨opens_tri_pc.1, fun H enc w fuel cs d h => by
  obtain ⟨x, hx⟩ := opens_tri_pc.2 H enc w fuel cs d h
  exact ⟨⟨x.1, x.2.1, x.2.2⟩, hx⟩⟩
theorem opens_sf : Lay.Opens 51 LSf := ⟨opens_tri_sf.1, fun H enc w fuel cs d h => by
  obtain ⟨x, hx⟩ := opens_tri_sf.2 H enc w fuel cs d h
  exact ⟨⟨x.1, x.2.1, x.2.2⟩, hx⟩⟩
theorem opens_pcs : Lay.Opens 22 (Lay.slice LPc) := Lay.Opens.slice Try.underlying22 (by kernel_rfl) opens_pc
theorem opens_sfs : Lay.Opens 38 (Lay.slice LSf) := Lay.Opens.slice Try.underlying38 (by kernel_rfl) opens_sf
end Go.Proofs.Ytcajmgdenhegjaa.Wr
