/- Votes: how the arguments are read. -/
import Derived.Test.YtmcenioblbcehaaVoteI
namespace Go.Proofs.Ytmcenioblbcehaa.Lg
open Go.RowKit Go.Proofs.Ytmcenioblbcehaa
set_option linter.unusedVariables false
abbrev LInts : Lay (List Int) := Lay.slice (Lay.int .i64)
abbrev LEnts : Lay (List Ent) := Lay.slice LEnt
abbrev StT := Int × List Int × Int × Int × Int × List Ent × Int × List Int × List Int × List Int
def LSeat : Lay StT := LI.pair (LInts.pair (LI.pair (LI.pair (LI.pair (LEnts.pair (LI.pair (LInts.pair (LInts.pair LInts))))))))
def stOf (x : StT) : St := { i := x.1, P := x.2.1, t := x.2.2.1, v := x.2.2.2.1, r := x.2.2.2.2.1, L := x.2.2.2.2.2.1, c := x.2.2.2.2.2.2.1, V := x.2.2.2.2.2.2.2.1, N := x.2.2.2.2.2.2.2.2.1, M := x.2.2.2.2.2.2.2.2.2 }
theorem seat_cells {w : World} {cs : List Value} {x : StT} (h : LSeat.R w cs x) : ∃ s, cs.toArray = seatA s ∧ SeatR w s (stOf x) := by
  obtain ⟨c0, r0, rfl, ⟨rfl, _⟩, h⟩ := h
  obtain ⟨c1, r1, rfl, ⟨v1, rfl, s1⟩, h⟩ := h
  obtain ⟨c2, r2, rfl, ⟨rfl, _⟩, h⟩ := h
  obtain ⟨c3, r3, rfl, ⟨rfl, _⟩, h⟩ := h
  obtain ⟨c4, r4, rfl, ⟨rfl, _⟩, h⟩ := h
  obtain ⟨c5, r5, rfl, ⟨v5, rfl, s5⟩, h⟩ := h
  obtain ⟨c6, r6, rfl, ⟨rfl, _⟩, h⟩ := h
  obtain ⟨c7, r7, rfl, ⟨v7, rfl, s7⟩, h⟩ := h
  obtain ⟨c8, r8, rfl, ⟨v8, rfl, s8⟩, ⟨v9, rfl, s9⟩⟩ := h
  obtain ⟨P, rfl, hP⟩ := SlR.of s1
  obtain ⟨L, rfl, hL⟩ := SlR.of s5
  obtain ⟨V, rfl, hV⟩ := SlR.of s7
  obtain ⟨N, rfl, hN⟩ := SlR.of s8
  obtain ⟨M, rfl, hM⟩ := SlR.of s9
  exact ⟨{ i := x.1, t := x.2.2.1, v := x.2.2.2.1, r := x.2.2.2.2.1, c := x.2.2.2.2.2.2.1, P := P, L := L, V := V, N := N, M := M }, rfl, ⟨rfl, rfl, rfl, rfl, rfl, hP, hL, hV, hN, hM⟩⟩
abbrev Cl := Int × Int × Int × Int × Int
def LCall : Lay Cl := (Lay.int .u8).pair ((Lay.int .u16).pair ((Lay.int .u8).pair ((Lay.int .u16).pair (Lay.int .u8))))
def callA (x : Cl) : Array Value := #[.int .u8 x.1, .int .u16 x.2.1, .int .u8 x.2.2.1, .int .u16 x.2.2.2.1, .int .u8 x.2.2.2.2]
structure ClOk (x : Cl) : Prop where
  d0 : 0 ≤ x.1
  d1 : x.1 < 256
  t0 : 0 ≤ x.2.1
  t1 : x.2.1 < 65536
  w0 : 0 ≤ x.2.2.1
  w1 : x.2.2.1 < 256
  l0 : 0 ≤ x.2.2.2.1
  l1 : x.2.2.2.1 < 65536
  m0 : 0 ≤ x.2.2.2.2
  m1 : x.2.2.2.2 < 256
theorem bd8 {n : Int} (h : (Lit.int .u8 n).wf = true) : 0 ≤ n ∧ n < 256 := by
  simp [Lit.wf, IntKind.min, IntKind.max, IntKind.signed, IntKind.bits] at h; omega
theorem bd16 {n : Int} (h : (Lit.int .u16 n).wf = true) : 0 ≤ n ∧ n < 65536 := by
  simp [Lit.wf, IntKind.min, IntKind.max, IntKind.signed, IntKind.bits] at h; omega
theorem call_cells {w : World} {cs : List Value} {x : Cl} (h : LCall.R w cs x) : cs.toArray = callA x ∧ ClOk x := by
  obtain ⟨c0, r0, rfl, ⟨rfl, h0⟩, h⟩ := h
  obtain ⟨c1, r1, rfl, ⟨rfl, h1⟩, h⟩ := h
  obtain ⟨c2, r2, rfl, ⟨rfl, h2⟩, h⟩ := h
  obtain ⟨c3, r3, rfl, ⟨rfl, h3⟩, ⟨rfl, h4⟩⟩ := h
  exact ⟨rfl, (bd8 h0).1, (bd8 h0).2, (bd16 h1).1, (bd16 h1).2, (bd8 h2).1, (bd8 h2).2, (bd16 h3).1, (bd16 h3).2, (bd8 h4).1, (bd8 h4).2⟩
theorem opens_int : Lay.Opens 3 (Lay.int .i64) := Lay.Opens.int Try.underlying3 (by kernel_rfl)
theorem opens_u8 : Lay.Opens 5 (Lay.int .u8) := Lay.Opens.int Try.underlying5 (by kernel_rfl)
theorem opens_u16 : Lay.Opens 29 (Lay.int .u16) := Lay.Opens.int Try.underlying29 (by kernel_rfl)
theorem opens_ints : Lay.Opens 22 LInts := Lay.Opens.slice Try.underlying22 (by kernel_rfl) opens_int
theorem opens_bytes : Lay.Opens 41 LB := Lay.Opens.slice Try.underlying41 (by kernel_rfl) opens_u8
theorem opens_ent : Lay.Opens 55 LEnt := Lay.Opens.struct Try.underlying55 rfl (by kernel_rfl) (Lay.OpensFs.cons rfl opens_int (Lay.OpensFs.last rfl opens_bytes))
theorem opens_ents : Lay.Opens 23 LEnts := Lay.Opens.slice Try.underlying23 (by kernel_rfl) opens_ent
theorem opens_seat : Lay.Opens 25 LSeat := Lay.Opens.struct Try.underlying25 rfl (by kernel_rfl) (Lay.OpensFs.cons rfl opens_int (Lay.OpensFs.cons rfl opens_ints (Lay.OpensFs.cons rfl opens_int (Lay.OpensFs.cons rfl opens_int (Lay.OpensFs.cons rfl opens_int (Lay.OpensFs.cons rfl opens_ents (Lay.OpensFs.cons rfl opens_int (Lay.OpensFs.cons rfl opens_ints (Lay.OpensFs.cons rfl opens_ints (Lay.OpensFs.last rfl opens_ints))))))))))
theorem opens_call : Lay.Opens 31 LCall := Lay.Opens.struct Try.underlying31 rfl (by kernel_rfl) (Lay.OpensFs.cons rfl opens_u8 (Lay.OpensFs.cons rfl opens_u16 (Lay.OpensFs.cons rfl opens_u8 (Lay.OpensFs.cons rfl opens_u16 (Lay.OpensFs.last rfl opens_u8)))))
theorem opens_calls : Lay.Opens 26 LCall.slice := Lay.Opens.slice Try.underlying26 (by kernel_rfl) opens_call
end Go.Proofs.Ytmcenioblbcehaa.Lg
