/- Messages: how they lie. -/
import Derived.Test.YtifbmkcfgpfefaaRep
import Derived.Test.YtifbmkcfgpfefaaRepS
import Derived.Test.YtifbmkcfgpfefaaPlain
import Derived.BigQuiet
import Derived.IntWalk
namespace Go.Proofs.Ytifbmkcfgpfefaa.Wi
open Go.RowKit Go.Proofs.Ytifbmkcfgpfefaa
set_option linter.unusedVariables false

/-- a message: from, to, its kind, its numbers, its bytes -/
structure Mg where
  a : Int
  b : Int
  k : Int
  n : List Int
  d : List Int
deriving DecidableEq, Inhabited
def LI : Lay (List Int) := Lay.slice (Lay.int .i64)
def LB : Lay (List Int) := Lay.slice (Lay.int .u8)
def LQ : Lay (Int × Int × Int × List Int × List Int) := (Lay.int .i64).pair ((Lay.int .i64).pair ((Lay.int .i64).pair (LI.pair LB)))
def LMg : Lay Mg where
  size := 5
  pos := by omega
  R := fun w cs x => LQ.R w cs (x.a, x.b, x.k, x.n, x.d)
  len := fun h => LQ.len h
  ext := fun h k => LQ.ext h k
  one := fun h => LQ.one h
/-- a message's five cells -/
def mgL (x : Mg) (p : Option Addr) (n c : Nat) (q : Option Addr) (m d : Nat) : List Value := [.int .i64 x.a, .int .i64 x.b, .int .i64 x.k, .slice p n c, .slice q m d]
structure MgC (w : World) (x : Mg) (p : Option Addr) (n c : Nat) (q : Option Addr) (m d : Nat) : Prop where
  wa : (Lit.int .i64 x.a).wf = true
  wb : (Lit.int .i64 x.b).wf = true
  wk : (Lit.int .i64 x.k).wf = true
  nr : (Lay.int .i64).Row w p n x.n
  nc : n ≤ c
  cm : c ≤ 9223372036854775807
  np : Pl p c
  dr : (Lay.int .u8).Row w q m x.d
  md : m ≤ d
  dm : d ≤ 9223372036854775807
  dp : Pl q d
theorem mg_cells {w : World} {cs : List Value} {x : Mg} (h : LMg.R w cs x) : ∃ p n c q m d, cs = [.int .i64 x.a, .int .i64 x.b, .int .i64 x.k, .slice p n c, .slice q m d] ∧ MgC w x p n c q m d := by
  obtain ⟨x1, y1, rfl, ⟨rfl, h1⟩, x2, y2, rfl, ⟨rfl, h2⟩, x3, y3, rfl, ⟨rfl, h3⟩, x4, y4, rfl, ⟨v, rfl, p, n, c, rfl, r1, r2, r3, r4⟩, ⟨u, rfl, q, m, d, rfl, s1, s2, s3, s4⟩⟩ := h
  exact ⟨p, n, c, q, m, d, rfl, h1, h2, h3, r1, r2, r3, r4, s1, s2, s3, s4⟩
theorem MgC.r {w : World} {x : Mg} {p : Option Addr} {n c : Nat} {q : Option Addr} {m d : Nat} (h : MgC w x p n c q m d) : LMg.R w [.int .i64 x.a, .int .i64 x.b, .int .i64 x.k, .slice p n c, .slice q m d] x :=
  ⟨_, _, rfl, ⟨rfl, h.wa⟩, _, _, rfl, ⟨rfl, h.wb⟩, _, _, rfl, ⟨rfl, h.wk⟩, _, _, rfl, ⟨_, rfl, p, n, c, rfl, h.nr, h.nc, h.cm, h.np⟩, ⟨_, rfl, q, m, d, rfl, h.dr, h.md, h.dm, h.dp⟩⟩
theorem MgC.ext {w w1 : World} {x : Mg} {p : Option Addr} {n c : Nat} {q : Option Addr} {m d : Nat} (h : MgC w x p n c q m d) (hx : Ext w w1) : MgC w1 x p n c q m d :=
  ⟨h.wa, h.wb, h.wk, h.nr.ext hx, h.nc, h.cm, h.np, h.dr.ext hx, h.md, h.dm, h.dp⟩
theorem mg_at {w : World} {p : Option Addr} {n : Nat} {l : List Mg} (h : LMg.Row w p n l) {j : Nat} {x : Mg} (hj : l[j]? = some x) :
    ∃ b off p1 n1 c1 q1 m1 d1, p = some ⟨b, off, none⟩ ∧ w.cell? ⟨b, off + j * 5, none⟩ = some (.int .i64 x.a) ∧ w.cell? ⟨b, off + j * 5 + 1, none⟩ = some (.int .i64 x.b) ∧ w.cell? ⟨b, off + j * 5 + 2, none⟩ = some (.int .i64 x.k) ∧
      w.cell? ⟨b, off + j * 5 + 3, none⟩ = some (.slice p1 n1 c1) ∧ w.cell? ⟨b, off + j * 5 + 4, none⟩ = some (.slice q1 m1 d1) ∧ MgC w x p1 n1 c1 q1 m1 d1 := by
  obtain ⟨b, off, y, cs, rfl, hy, hr, hc⟩ := h.get (j := j) (by rw [← h.1]; exact (List.getElem?_eq_some_iff.1 hj).1)
  obtain rfl : x = y := by simpa [hj] using hy
  obtain ⟨p1, n1, c1, q1, m1, d1, rfl, ht⟩ := mg_cells hr
  exact ⟨b, off, p1, n1, c1, q1, m1, d1, rfl, hc 0 _ rfl, hc 1 _ rfl, hc 2 _ rfl, hc 3 _ rfl, hc 4 _ rfl, ht⟩
theorem opens_int : Lay.Opens 3 (Lay.int .i64) := Lay.Opens.int Try.underlying3 (by kernel_rfl)
theorem opens_u8 : Lay.Opens 5 (Lay.int .u8) := Lay.Opens.int Try.underlying5 (by kernel_rfl)
theorem opens_bytes : Lay.Opens 24 LB := Lay.Opens.slice Try.underlying24 (by kernel_rfl) opens_u8
theorem opens_ints : Lay.Opens 23 LI := Lay.Opens.slice Try.underlying23 (by kernel_rfl) opens_int
theorem opens_q : Lay.Opens 26 LQ := Lay.Opens.struct Try.underlying26 rfl (by kernel_rfl) (Lay.OpensFs.cons rfl opens_int (Lay.OpensFs.cons rfl opens_int (Lay.OpensFs.cons rfl opens_int (Lay.OpensFs.cons rfl opens_ints (Lay.OpensFs.last rfl opens_bytes)))))
theorem opens_mg : Lay.Opens 26 LMg := ⟨opens_q.1, fun H enc w fuel cs d h => by
  obtain ⟨x, hx⟩ := opens_q.2 H enc w fuel cs d h
  exact ⟨⟨x.1, x.2.1, x.2.2.1, x.2.2.2.1, x.2.2.2.2⟩, hx⟩⟩
theorem opens_mgs : Lay.Opens 22 (Lay.slice LMg) := Lay.Opens.slice Try.underlying22 (by kernel_rfl) opens_mg

/-- one message, that lies in what came in, whatever is written into a row of the call's own -/
theorem mg_keep {w0 w1 : World} {row : Option Nat} {x : Mg} {p : Option Addr} {n c : Nat} {q : Option Addr} {m d : Nat} (h : MgC w0 x p n c q m d) (hx : Ext w0 w1) (hr : ∀ k, row = some k → w0.heap.size ≤ k) : LMg.AllK w1 row [.int .i64 x.a, .int .i64 x.b, .int .i64 x.k, .slice p n c, .slice q m d] [x] :=
  fun w' hg => Lay.All.single ((MgC.ext h (Lay.grown_old hx hr hg)).r)
theorem mg_one {w w1 : World} {x : Mg} {p : Option Addr} {n c : Nat} {q : Option Addr} {m d : Nat} (t : TypeId) (hx : MgC w1 x p n c q m d) (h : Ext (w.alloc (.cells #[.int .i64 x.a, .int .i64 x.b, .int .i64 x.k, .slice p n c, .slice q m d] t)) w1) :
    LMg.Row w1 (some ⟨w.heap.size, 0, none⟩) 1 [x] :=
  Lay.Row.lit h ⟨[.int .i64 x.a, .int .i64 x.b, .int .i64 x.k, .slice p n c, .slice q m d], [], rfl, hx.r, rfl⟩ rfl rfl (by omega)
theorem box5 {w w2 : World} {v0 v1 v2 v3 v4 : Value} {t : TypeId} (h : Ext (w.alloc (.cells #[v0, v1, v2, v3, v4] t)) w2) :
    w2.cell? ⟨w.heap.size, 0, none⟩ = some v0 ∧ w2.cell? ⟨w.heap.size, 1, none⟩ = some v1 ∧ w2.cell? ⟨w.heap.size, 2, none⟩ = some v2 ∧ w2.cell? ⟨w.heap.size, 3, none⟩ = some v3 ∧ w2.cell? ⟨w.heap.size, 4, none⟩ = some v4 := by
  have h1 := heap_ext (heap_alloc_new w (.cells #[v0, v1, v2, v3, v4] t)) h
  exact ⟨cell_of_row _ _ 0 _ _ _ h1, cell_of_row _ _ 1 _ _ _ h1, cell_of_row _ _ 2 _ _ _ h1, cell_of_row _ _ 3 _ _ _ h1, cell_of_row _ _ 4 _ _ _ h1⟩
/-- slices, their parts -/
theorem sl_parts {α : Type} {E : Lay α} {w : World} {p : Option Addr} {n c : Nat} {l : List α} (h : E.Sl w (.slice p n c) l) : E.Row w p n l ∧ n ≤ c ∧ c ≤ 9223372036854775807 ∧ Pl p c := by
  obtain ⟨p', n', c', e, h1, h2, h3, h4⟩ := h
  cases e
  exact ⟨h1, h2, h3, h4⟩
theorem sl_form {α : Type} {E : Lay α} {w : World} {v : Value} {l : List α} (h : E.Sl w v l) : ∃ p n c, v = .slice p n c ∧ n = l.length := by
  obtain ⟨p, n, c, rfl, h1, _⟩ := h
  exact ⟨p, n, c, rfl, h1.1.symm⟩
theorem sl_row {α : Type} {E : Lay α} {w : World} {p : Option Addr} {n c : Nat} {l : List α} (h : E.Sl w (.slice p n c) l) : E.Row w p n l := (sl_parts h).1
theorem own_form {α : Type} {E : Lay α} {w : World} {base : Nat} {e : TypeId} {o : Value} {l : List α} (h : E.Own w base e o l) : ∃ p n c, o = .slice p n c := by
  obtain ⟨p, n, c, rfl, _⟩ := h.sl
  exact ⟨_, _, _, rfl⟩
theorem info_mg : (Try.prog.info? 26).map (fun i => (i.zero, i.size, i.bytes)) = some (some (.agg #[.int .i64 0, .int .i64 0, .int .i64 0, .slice none 0 0, .slice none 0 0]), LMg.size, 72) := by kernel_rfl
theorem rowsize_mg : (Try.prog.info? 26).map (·.size) = some 5 := by kernel_rfl
theorem info_int : (Try.prog.info? 3).map (fun i => (i.zero, i.size, i.bytes)) = some (some (.int .i64 0), (Lay.int .i64).size, 8) := by kernel_rfl
theorem plain_i64 : (Lay.int .i64).Plain := Lay.PlainR.plain fun _ _ _ _ h => h
end Go.Proofs.Ytifbmkcfgpfefaa.Wi
