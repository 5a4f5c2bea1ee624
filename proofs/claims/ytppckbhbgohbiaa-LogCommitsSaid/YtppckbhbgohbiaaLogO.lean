/- Logs: how the arguments are read. -/
import Derived.Test.YtppckbhbgohbiaaLogA
namespace Go.Proofs.Ytppckbhbgohbiaa.Lg
open Go.RowKit Go.Proofs.Ytppckbhbgohbiaa
theorem opens_int : Lay.Opens 3 (Lay.int .i64) := Lay.Opens.int Try.underlying3 (by kernel_rfl)
theorem opens_u8 : Lay.Opens 5 (Lay.int .u8) := Lay.Opens.int Try.underlying5 (by kernel_rfl)
theorem opens_ints : Lay.Opens 23 (Lay.slice (Lay.int .i64)) := Lay.Opens.slice Try.underlying23 (by kernel_rfl) opens_int
theorem opens_bytes : Lay.Opens 32 LB := Lay.Opens.slice Try.underlying32 (by kernel_rfl) opens_u8
theorem opens_ent : Lay.Opens 34 LEnt := Lay.Opens.struct Try.underlying34 rfl (by kernel_rfl) (Lay.OpensFs.cons rfl opens_int (Lay.OpensFs.last rfl opens_bytes))
theorem opens_ents : Lay.Opens 22 (Lay.slice LEnt) := Lay.Opens.slice Try.underlying22 (by kernel_rfl) opens_ent
end Go.Proofs.Ytppckbhbgohbiaa.Lg
