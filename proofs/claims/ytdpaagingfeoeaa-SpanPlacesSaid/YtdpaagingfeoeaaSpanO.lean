/- Spans: how the arguments are read. -/
import Derived.Test.YtdpaagingfeoeaaSpanA
namespace Go.Proofs.Ytdpaagingfeoeaa.Sp
open Go.RowKit Go.Proofs.Ytdpaagingfeoeaa
theorem opens_int : Lay.Opens 3 (Lay.int .i64) := Lay.Opens.int Try.underlying3 (by kernel_rfl)
theorem opens_span : Lay.Opens 33 LSpan := Lay.Opens.struct Try.underlying33 rfl (by kernel_rfl) (Lay.OpensFs.cons rfl opens_int (Lay.OpensFs.last rfl opens_int))
theorem opens_spans : Lay.Opens 22 (Lay.slice LSpan) := Lay.Opens.slice Try.underlying22 (by kernel_rfl) opens_span
end Go.Proofs.Ytdpaagingfeoeaa.Sp
