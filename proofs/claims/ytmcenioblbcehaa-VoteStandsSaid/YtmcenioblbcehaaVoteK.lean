/- Votes: the walk of VoteAlone. -/
import Derived.Test.YtmcenioblbcehaaVoteJ
namespace Go.Proofs.Ytmcenioblbcehaa.Lg
open Go.RowKit Go.Proofs.Ytmcenioblbcehaa
set_option linter.unusedVariables false
theorem upD_t (d : St) (t : Int) : t ≤ (upD d t).t := by
  unfold upD; split
  · exact Int.le_refl t
  · omega
theorem upD_up (d : St) (t : Int) (h : t ≤ d.t) : upD d t = d := by unfold upD; rw [if_neg (by omega)]
theorem askD_t (d : St) (b : Bool) (t who : Int) : (askD d b t who).t = (upD d t).t := by unfold askD; split <;> rfl
theorem askD_L (d : St) (b : Bool) (t who : Int) : (askD d b t who).L = d.L := by unfold askD; split <;> exact upD_L d t
theorem upD_c (d : St) (t : Int) : (upD d t).c = d.c := by unfold upD downD; split <;> rfl
theorem askD_c (d : St) (b : Bool) (t who : Int) : (askD d b t who).c = d.c := by unfold askD; split <;> exact upD_c d t
/-- asked again, the same is told, and nothing more becomes -/
theorem again (d : St) (t who last many : Int) : askB (askD d (askB d t who last many) t who) t who last many = askB d t who last many ∧ askD (askD d (askB d t who last many) t who) (askB d t who last many) t who = askD d (askB d t who last many) t who := by
  have h1 : ∀ b, upD (askD d b t who) t = askD d b t who := fun b => upD_up _ _ (by rw [askD_t]; exact upD_t d t)
  cases hb : askB d t who last many
  · refine ⟨?_, by unfold askD; simp only [Bool.false_eq_true, if_false]; exact h1 false⟩
    have e : askD d false t who = upD d t := rfl
    have h2 := h1 false
    rw [e] at h2 ⊢
    unfold askB at hb ⊢
    rw [h2, upD_L]; exact hb
  · have e : askD d true t who = { upD d t with v := who } := rfl
    have h2 := h1 true
    refine ⟨?_, ?_⟩
    · unfold askB at hb ⊢
      rw [h2, askD_L, e]
      simp only [Bool.and_eq_true, decide_eq_true_eq] at hb ⊢
      first
        | exact ⟨hb.1, Or.inr rfl, hb.2.2⟩
        | exact ⟨hb.1, Or.inr trivial, hb.2.2⟩
    · have e2 : ∀ D, askD D true t who = { upD D t with v := who } := fun _ => rfl
      rw [e2 (askD d true t who), h2]
      rfl
theorem ask_new {d : St} {t who last many : Int} (h : askB d t who last many = true) : newerB d.L last many = true := by
  unfold askB at h
  simp only [Bool.and_eq_true] at h
  exact h.2.2
theorem ask_old {d : St} {t who last many : Int} (h : t < d.t) : askB d t who last many = false ∧ askD d false t who = d := by
  have e : upD d t = d := upD_up _ _ (by omega)
  refine ⟨?_, e⟩
  unfold askB
  rw [e, decide_eq_false (by omega)]; rfl
theorem upD_tt {d : St} {t : Int} (h : ¬ t < d.t) : (upD d t).t = t := by
  unfold upD; split
  · rfl
  · omega

def CallAt (w : World) (B : Nat) (x : Cl) : Prop := w.heap[B]? = some (.cells (callA x) 31 (0, 0))
theorem CallAt.ext {w w1 : World} {B : Nat} {x : Cl} (h : CallAt w B x) (hx : Ext w w1) : CallAt w1 B x := heap_ext h hx
theorem call_val {W : World} {B : Nat} {x : Cl} (h : CallAt W B x) (k : Nat) {v : Value} (hk : (callA x)[k]? = some v) : W.cell? ⟨B, k, none⟩ = some v := by
  rw [cell_of_row _ _ k _ _ _ h]; exact hk
theorem box_call (w : World) (s : SeatV) (x : Cl) : BoxAt ((w.alloc (.cells #[.int .i64 s.i, .slice s.P.p s.P.n s.P.c, .int .i64 s.t, .int .i64 s.v, .int .i64 s.r, .slice s.L.p s.L.n s.L.c, .int .i64 s.c, .slice s.V.p s.V.n s.V.c, .slice s.N.p s.N.n s.N.c, .slice s.M.p s.M.n s.M.c] 25)).alloc (.cells #[.int .u8 x.1, .int .u16 x.2.1, .int .u8 x.2.2.1, .int .u16 x.2.2.2.1, .int .u8 x.2.2.2.2] 31)) w.heap.size s ∧ CallAt ((w.alloc (.cells #[.int .i64 s.i, .slice s.P.p s.P.n s.P.c, .int .i64 s.t, .int .i64 s.v, .int .i64 s.r, .slice s.L.p s.L.n s.L.c, .int .i64 s.c, .slice s.V.p s.V.n s.V.c, .slice s.N.p s.N.n s.N.c, .slice s.M.p s.M.n s.M.c] 25)).alloc (.cells #[.int .u8 x.1, .int .u16 x.2.1, .int .u8 x.2.2.1, .int .u16 x.2.2.2.1, .int .u8 x.2.2.2.2] 31)) (w.heap.size + 1) x ∧ Ext w ((w.alloc (.cells #[.int .i64 s.i, .slice s.P.p s.P.n s.P.c, .int .i64 s.t, .int .i64 s.v, .int .i64 s.r, .slice s.L.p s.L.n s.L.c, .int .i64 s.c, .slice s.V.p s.V.n s.V.c, .slice s.N.p s.N.n s.N.c, .slice s.M.p s.M.n s.M.c] 25)).alloc (.cells #[.int .u8 x.1, .int .u16 x.2.1, .int .u8 x.2.2.1, .int .u16 x.2.2.2.1, .int .u8 x.2.2.2.2] 31)) := by
  refine ⟨?_, ?_, by (unfold Ext; repeat (first | exact Below.refl _ _ | assumption | refine Below.drew ?_ | refine below_drewN ?_ _ | refine Below.alloc ?_ (by first | exact Nat.le_refl _ | (simp; done) | (simp; omega) | omega) _ | refine Below.setCell ?_ (by first | exact Nat.le_refl _ | (simp; done) | (simp; omega) | omega) _))⟩
  · exact heap_ext (w := (w.alloc (.cells #[.int .i64 s.i, .slice s.P.p s.P.n s.P.c, .int .i64 s.t, .int .i64 s.v, .int .i64 s.r, .slice s.L.p s.L.n s.L.c, .int .i64 s.c, .slice s.V.p s.V.n s.V.c, .slice s.N.p s.N.n s.N.c, .slice s.M.p s.M.n s.M.c] 25))) (by have := heap_alloc_new w (.cells #[.int .i64 s.i, .slice s.P.p s.P.n s.P.c, .int .i64 s.t, .int .i64 s.v, .int .i64 s.r, .slice s.L.p s.L.n s.L.c, .int .i64 s.c, .slice s.V.p s.V.n s.V.c, .slice s.N.p s.N.n s.N.c, .slice s.M.p s.M.n s.M.c] 25); simpa [BoxAt, seatA] using this) (by (unfold Ext; repeat (first | exact Below.refl _ _ | assumption | refine Below.drew ?_ | refine below_drewN ?_ _ | refine Below.alloc ?_ (by first | exact Nat.le_refl _ | (simp; done) | (simp; omega) | omega) _ | refine Below.setCell ?_ (by first | exact Nat.le_refl _ | (simp; done) | (simp; omega) | omega) _)))
  · have := heap_alloc_new (w.alloc (.cells #[.int .i64 s.i, .slice s.P.p s.P.n s.P.c, .int .i64 s.t, .int .i64 s.v, .int .i64 s.r, .slice s.L.p s.L.n s.L.c, .int .i64 s.c, .slice s.V.p s.V.n s.V.c, .slice s.N.p s.N.n s.N.c, .slice s.M.p s.M.n s.M.c] 25)) (.cells #[.int .u8 x.1, .int .u16 x.2.1, .int .u8 x.2.2.1, .int .u16 x.2.2.2.1, .int .u8 x.2.2.2.2] 31); simpa [CallAt, callA] using this

set_option maxRecDepth 100000 in
set_option maxHeartbeats 8000000 in
theorem alone_walk (s : SeatV) (d : St) (x : Cl) (w : World) (h : SeatR w s d) (hc : ClOk x) :
    Calls Try.prog 8 #[.agg (seatA s), .agg (callA x)] w fun e w' => e = .returned (.bool true) ∧ Ext w w' := by
  have H0 := Lib.hid h
  have HB0 : Hid (BoxAt ((w.alloc (.cells #[.int .i64 s.i, .slice s.P.p s.P.n s.P.c, .int .i64 s.t, .int .i64 s.v, .int .i64 s.r, .slice s.L.p s.L.n s.L.c, .int .i64 s.c, .slice s.V.p s.V.n s.V.c, .slice s.N.p s.N.n s.N.c, .slice s.M.p s.M.n s.M.c] 25)).alloc (.cells #[.int .u8 x.1, .int .u16 x.2.1, .int .u8 x.2.2.1, .int .u16 x.2.2.2.1, .int .u8 x.2.2.2.2] 31)) w.heap.size s ∧ CallAt ((w.alloc (.cells #[.int .i64 s.i, .slice s.P.p s.P.n s.P.c, .int .i64 s.t, .int .i64 s.v, .int .i64 s.r, .slice s.L.p s.L.n s.L.c, .int .i64 s.c, .slice s.V.p s.V.n s.V.c, .slice s.N.p s.N.n s.N.c, .slice s.M.p s.M.n s.M.c] 25)).alloc (.cells #[.int .u8 x.1, .int .u16 x.2.1, .int .u8 x.2.2.1, .int .u16 x.2.2.2.1, .int .u8 x.2.2.2.2] 31)) (w.heap.size + 1) x ∧ Ext w ((w.alloc (.cells #[.int .i64 s.i, .slice s.P.p s.P.n s.P.c, .int .i64 s.t, .int .i64 s.v, .int .i64 s.r, .slice s.L.p s.L.n s.L.c, .int .i64 s.c, .slice s.V.p s.V.n s.V.c, .slice s.N.p s.N.n s.N.c, .slice s.M.p s.M.n s.M.c] 25)).alloc (.cells #[.int .u8 x.1, .int .u16 x.2.1, .int .u8 x.2.2.1, .int .u16 x.2.2.2.1, .int .u8 x.2.2.2.2] 31))) := Lib.hid (box_call w s x)
  obtain ⟨cd0, cd1, ct0, ct1, cw0, cw1, cl0, cl1, cm0, cm1⟩ := hc
  obtain ⟨b1, hb1⟩ : ∃ b, askB d x.2.1 x.2.2.1 x.2.2.2.1 x.2.2.2.2 = b := ⟨_, rfl⟩
  have HK1 := Lib.hid hb1
  clear h hb1
  unfold seatA callA
  go_enter Try.func8, Try.ntmps8
  go_wp2_with fail
  refine (head_any _).mono ?_
  rintro e w1 ⟨rfl, hx1⟩
  have BS := Lib.hid (HB0.out.1.ext hx1)
  have BC := Lib.hid (HB0.out.2.1.ext hx1)
  have hx : Ext w w1 := Ext.trans HB0.out.2.2 hx1
  replace H0 := Lib.hid (H0.out.ext hx)
  clear HB0 hx1
  have c0i : w1.cell? ⟨w.heap.size, 0, none⟩ = some (.int .i64 s.i) := box_val BS.out 0 rfl
  have c0P : w1.cell? ⟨w.heap.size, 1, none⟩ = some (.slice s.P.p s.P.n s.P.c) := box_val BS.out 1 rfl
  have c0t : w1.cell? ⟨w.heap.size, 2, none⟩ = some (.int .i64 s.t) := box_val BS.out 2 rfl
  have c0v : w1.cell? ⟨w.heap.size, 3, none⟩ = some (.int .i64 s.v) := box_val BS.out 3 rfl
  have c0r : w1.cell? ⟨w.heap.size, 4, none⟩ = some (.int .i64 s.r) := box_val BS.out 4 rfl
  have c0L : w1.cell? ⟨w.heap.size, 5, none⟩ = some (.slice s.L.p s.L.n s.L.c) := box_val BS.out 5 rfl
  have c0c : w1.cell? ⟨w.heap.size, 6, none⟩ = some (.int .i64 s.c) := box_val BS.out 6 rfl
  have c0V : w1.cell? ⟨w.heap.size, 7, none⟩ = some (.slice s.V.p s.V.n s.V.c) := box_val BS.out 7 rfl
  have c0N : w1.cell? ⟨w.heap.size, 8, none⟩ = some (.slice s.N.p s.N.n s.N.c) := box_val BS.out 8 rfl
  have c0M : w1.cell? ⟨w.heap.size, 9, none⟩ = some (.slice s.M.p s.M.n s.M.c) := box_val BS.out 9 rfl
  go_wp2_with fail
  refine (fits_seat s d _ H0.out).mono ?_
  rintro e w2 ⟨⟨q, rfl, hq⟩, hx1⟩
  have HX := Lib.hid hx1
  clear c0i c0P c0t c0v c0r c0L c0c c0V c0N c0M
  replace H0 := Lib.hid (H0.out.ext HX.out)
  replace BS := Lib.hid (BS.out.ext HX.out)
  replace BC := Lib.hid (BC.out.ext HX.out)
  replace hx := Ext.trans hx HX.out
  clear hx1 HX
  cases q
  · clear hq
    go_wp2
    go_ret
    exact ⟨rfl, hx⟩
  have HF := Lib.hid (hq rfl)
  clear hq
  have c0i : w2.cell? ⟨w.heap.size, 0, none⟩ = some (.int .i64 s.i) := box_val BS.out 0 rfl
  have c0P : w2.cell? ⟨w.heap.size, 1, none⟩ = some (.slice s.P.p s.P.n s.P.c) := box_val BS.out 1 rfl
  have c0t : w2.cell? ⟨w.heap.size, 2, none⟩ = some (.int .i64 s.t) := box_val BS.out 2 rfl
  have c0v : w2.cell? ⟨w.heap.size, 3, none⟩ = some (.int .i64 s.v) := box_val BS.out 3 rfl
  have c0r : w2.cell? ⟨w.heap.size, 4, none⟩ = some (.int .i64 s.r) := box_val BS.out 4 rfl
  have c0L : w2.cell? ⟨w.heap.size, 5, none⟩ = some (.slice s.L.p s.L.n s.L.c) := box_val BS.out 5 rfl
  have c0c : w2.cell? ⟨w.heap.size, 6, none⟩ = some (.int .i64 s.c) := box_val BS.out 6 rfl
  have c0V : w2.cell? ⟨w.heap.size, 7, none⟩ = some (.slice s.V.p s.V.n s.V.c) := box_val BS.out 7 rfl
  have c0N : w2.cell? ⟨w.heap.size, 8, none⟩ = some (.slice s.N.p s.N.n s.N.c) := box_val BS.out 8 rfl
  have c0M : w2.cell? ⟨w.heap.size, 9, none⟩ = some (.slice s.M.p s.M.n s.M.c) := box_val BS.out 9 rfl
  have a1 : w2.cell? ⟨w.heap.size + 1, 1, none⟩ = some (.int .u16 x.2.1) := call_val BC.out 1 rfl
  have a2 : w2.cell? ⟨w.heap.size + 1, 2, none⟩ = some (.int .u8 x.2.2.1) := call_val BC.out 2 rfl
  have a3 : w2.cell? ⟨w.heap.size + 1, 3, none⟩ = some (.int .u16 x.2.2.2.1) := call_val BC.out 3 rfl
  have a4 : w2.cell? ⟨w.heap.size + 1, 4, none⟩ = some (.int .u8 x.2.2.2.2) := call_val BC.out 4 rfl
  go_wp2_with fail
  refine (ask_any s d _ H0.out x.2.1 x.2.2.1 x.2.2.2.1 x.2.2.2.2).mono ?_
  rw [HK1.out]
  rintro e w3 ⟨⟨s1, rfl, h1⟩, hx1⟩
  have HX := Lib.hid hx1
  clear c0i c0P c0t c0v c0r c0L c0c c0V c0N c0M
  clear a1 a2 a3 a4
  replace H0 := Lib.hid (H0.out.ext HX.out)
  replace BS := Lib.hid (BS.out.ext HX.out)
  replace BC := Lib.hid (BC.out.ext HX.out)
  replace hx := Ext.trans hx HX.out
  have H1 : Hid (SeatR w3 s1 (askD d b1 x.2.1 x.2.2.1)) := Lib.hid (h1 _ _ H0.out)
  clear hx1 h1 HX
  unfold seatA
  have HBX : Hid (BoxAt ((w3.alloc (.cells #[.int .i64 0, .slice none 0 0, .int .i64 0, .int .i64 0, .int .i64 0, .slice none 0 0, .int .i64 0, .slice none 0 0, .slice none 0 0, .slice none 0 0] 25)).setRow w3.heap.size #[.int .i64 s1.i, .slice s1.P.p s1.P.n s1.P.c, .int .i64 s1.t, .int .i64 s1.v, .int .i64 s1.r, .slice s1.L.p s1.L.n s1.L.c, .int .i64 s1.c, .slice s1.V.p s1.V.n s1.V.c, .slice s1.N.p s1.N.n s1.N.c, .slice s1.M.p s1.M.n s1.M.c]) w3.heap.size s1 ∧ Ext w3 ((w3.alloc (.cells #[.int .i64 0, .slice none 0 0, .int .i64 0, .int .i64 0, .int .i64 0, .slice none 0 0, .int .i64 0, .slice none 0 0, .slice none 0 0, .slice none 0 0] 25)).setRow w3.heap.size #[.int .i64 s1.i, .slice s1.P.p s1.P.n s1.P.c, .int .i64 s1.t, .int .i64 s1.v, .int .i64 s1.r, .slice s1.L.p s1.L.n s1.L.c, .int .i64 s1.c, .slice s1.V.p s1.V.n s1.V.c, .slice s1.N.p s1.N.n s1.N.c, .slice s1.M.p s1.M.n s1.M.c])) := Lib.hid (box_new w3 s1)
  have HZ := Lib.hid (box_zero w3)
  go_wp2_with ((with_reducible refine wpList_store_row (o := ⟨none, .store 25 (.tmp 7) (.tmp 36), _, _, _, _⟩) ?_ 25 (.tmp 7) (.tmp 36) ?_ w3.heap.size #[.int .i64 s1.i, .slice s1.P.p s1.P.n s1.P.c, .int .i64 s1.t, .int .i64 s1.v, .int .i64 s1.r, .slice s1.L.p s1.L.n s1.L.c, .int .i64 s1.c, .slice s1.V.p s1.V.n s1.V.c, .slice s1.N.p s1.N.n s1.N.c, .slice s1.M.p s1.M.n s1.M.c] ?_ ?_ 25 #[.int .i64 0, .slice none 0 0, .int .i64 0, .int .i64 0, .int .i64 0, .slice none 0 0, .int .i64 0, .slice none 0 0, .slice none 0 0, .slice none 0 0] ?_ ?_ ?_ ?_ ?_); (exact rfl); (exact rfl); (exact rfl); (exact rfl); (exact HZ.out); (exact info_seat); (exact rfl); (exact seat_one s1); generalize (w3.alloc (.cells #[.int .i64 0, .slice none 0 0, .int .i64 0, .int .i64 0, .int .i64 0, .slice none 0 0, .int .i64 0, .slice none 0 0, .slice none 0 0, .slice none 0 0] 25)).setRow w3.heap.size #[.int .i64 s1.i, .slice s1.P.p s1.P.n s1.P.c, .int .i64 s1.t, .int .i64 s1.v, .int .i64 s1.r, .slice s1.L.p s1.L.n s1.L.c, .int .i64 s1.c, .slice s1.V.p s1.V.n s1.V.c, .slice s1.N.p s1.N.n s1.N.c, .slice s1.M.p s1.M.n s1.M.c] = u3 at HBX ⊢; generalize w3.heap.size = bk1 at HBX ⊢; have B1 := Lib.hid HBX.out.1; have HX := Lib.hid HBX.out.2; replace H0 := Lib.hid (H0.out.ext HX.out); replace H1 := Lib.hid (H1.out.ext HX.out); replace BS := Lib.hid (BS.out.ext HX.out); replace BC := Lib.hid (BC.out.ext HX.out); replace hx := Ext.trans hx HX.out; clear HX HBX HZ; have c1i : u3.cell? ⟨bk1, 0, none⟩ = some (.int .i64 s1.i) := box_val B1.out 0 rfl; have c1P : u3.cell? ⟨bk1, 1, none⟩ = some (.slice s1.P.p s1.P.n s1.P.c) := box_val B1.out 1 rfl; have c1t : u3.cell? ⟨bk1, 2, none⟩ = some (.int .i64 s1.t) := box_val B1.out 2 rfl; have c1v : u3.cell? ⟨bk1, 3, none⟩ = some (.int .i64 s1.v) := box_val B1.out 3 rfl; have c1r : u3.cell? ⟨bk1, 4, none⟩ = some (.int .i64 s1.r) := box_val B1.out 4 rfl; have c1L : u3.cell? ⟨bk1, 5, none⟩ = some (.slice s1.L.p s1.L.n s1.L.c) := box_val B1.out 5 rfl; have c1c : u3.cell? ⟨bk1, 6, none⟩ = some (.int .i64 s1.c) := box_val B1.out 6 rfl; have c1V : u3.cell? ⟨bk1, 7, none⟩ = some (.slice s1.V.p s1.V.n s1.V.c) := box_val B1.out 7 rfl; have c1N : u3.cell? ⟨bk1, 8, none⟩ = some (.slice s1.N.p s1.N.n s1.N.c) := box_val B1.out 8 rfl; have c1M : u3.cell? ⟨bk1, 9, none⟩ = some (.slice s1.M.p s1.M.n s1.M.c) := box_val B1.out 9 rfl; have a1 : u3.cell? ⟨w.heap.size + 1, 1, none⟩ = some (.int .u16 x.2.1) := call_val BC.out 1 rfl; have a2 : u3.cell? ⟨w.heap.size + 1, 2, none⟩ = some (.int .u8 x.2.2.1) := call_val BC.out 2 rfl; have a3 : u3.cell? ⟨w.heap.size + 1, 3, none⟩ = some (.int .u16 x.2.2.2.1) := call_val BC.out 3 rfl; have a4 : u3.cell? ⟨w.heap.size + 1, 4, none⟩ = some (.int .u8 x.2.2.2.2) := call_val BC.out 4 rfl)
  obtain ⟨d1, hd1⟩ : ∃ d1, askD d b1 x.2.1 x.2.2.1 = d1 := ⟨_, rfl⟩
  have HD1 := Lib.hid hd1
  rw [hd1] at H1
  clear hd1
  have HK2 : Hid (askB d1 x.2.1 x.2.2.1 x.2.2.2.1 x.2.2.2.2 = b1 ∧ askD d1 b1 x.2.1 x.2.2.1 = d1) := Lib.hid (by have h := again d x.2.1 x.2.2.1 x.2.2.2.1 x.2.2.2.2; rw [HK1.out, HD1.out] at h; exact h)
  refine (ask_any s1 d1 _ H1.out x.2.1 x.2.2.1 x.2.2.2.1 x.2.2.2.2).mono ?_
  rw [HK2.out.1]
  rintro e w4 ⟨⟨s2, rfl, h2⟩, hx1⟩
  have HX := Lib.hid hx1
  clear c1i c1P c1t c1v c1r c1L c1c c1V c1N c1M
  clear a1 a2 a3 a4
  replace H0 := Lib.hid (H0.out.ext HX.out)
  replace H1 := Lib.hid (H1.out.ext HX.out)
  replace B1 := Lib.hid (B1.out.ext HX.out)
  replace BS := Lib.hid (BS.out.ext HX.out)
  replace BC := Lib.hid (BC.out.ext HX.out)
  replace hx := Ext.trans hx HX.out
  have H2 : Hid (SeatR w4 s2 d1) := Lib.hid (by have h : SeatR w4 s2 (askD d1 b1 x.2.1 x.2.2.1) := h2 _ _ H1.out; rw [HK2.out.2] at h; exact h)
  clear hx1 h2 HX
  unfold seatA
  have HBX : Hid (BoxAt ((w4.alloc (.cells #[.int .i64 0, .slice none 0 0, .int .i64 0, .int .i64 0, .int .i64 0, .slice none 0 0, .int .i64 0, .slice none 0 0, .slice none 0 0, .slice none 0 0] 25)).setRow w4.heap.size #[.int .i64 s2.i, .slice s2.P.p s2.P.n s2.P.c, .int .i64 s2.t, .int .i64 s2.v, .int .i64 s2.r, .slice s2.L.p s2.L.n s2.L.c, .int .i64 s2.c, .slice s2.V.p s2.V.n s2.V.c, .slice s2.N.p s2.N.n s2.N.c, .slice s2.M.p s2.M.n s2.M.c]) w4.heap.size s2 ∧ Ext w4 ((w4.alloc (.cells #[.int .i64 0, .slice none 0 0, .int .i64 0, .int .i64 0, .int .i64 0, .slice none 0 0, .int .i64 0, .slice none 0 0, .slice none 0 0, .slice none 0 0] 25)).setRow w4.heap.size #[.int .i64 s2.i, .slice s2.P.p s2.P.n s2.P.c, .int .i64 s2.t, .int .i64 s2.v, .int .i64 s2.r, .slice s2.L.p s2.L.n s2.L.c, .int .i64 s2.c, .slice s2.V.p s2.V.n s2.V.c, .slice s2.N.p s2.N.n s2.N.c, .slice s2.M.p s2.M.n s2.M.c])) := Lib.hid (box_new w4 s2)
  have HZ := Lib.hid (box_zero w4)
  go_wp2_with ((with_reducible refine wpList_store_row (o := ⟨none, .store 25 (.tmp 9) (.tmp 53), _, _, _, _⟩) ?_ 25 (.tmp 9) (.tmp 53) ?_ w4.heap.size #[.int .i64 s2.i, .slice s2.P.p s2.P.n s2.P.c, .int .i64 s2.t, .int .i64 s2.v, .int .i64 s2.r, .slice s2.L.p s2.L.n s2.L.c, .int .i64 s2.c, .slice s2.V.p s2.V.n s2.V.c, .slice s2.N.p s2.N.n s2.N.c, .slice s2.M.p s2.M.n s2.M.c] ?_ ?_ 25 #[.int .i64 0, .slice none 0 0, .int .i64 0, .int .i64 0, .int .i64 0, .slice none 0 0, .int .i64 0, .slice none 0 0, .slice none 0 0, .slice none 0 0] ?_ ?_ ?_ ?_ ?_); (exact rfl); (exact rfl); (exact rfl); (exact rfl); (exact HZ.out); (exact info_seat); (exact rfl); (exact seat_one s2); generalize (w4.alloc (.cells #[.int .i64 0, .slice none 0 0, .int .i64 0, .int .i64 0, .int .i64 0, .slice none 0 0, .int .i64 0, .slice none 0 0, .slice none 0 0, .slice none 0 0] 25)).setRow w4.heap.size #[.int .i64 s2.i, .slice s2.P.p s2.P.n s2.P.c, .int .i64 s2.t, .int .i64 s2.v, .int .i64 s2.r, .slice s2.L.p s2.L.n s2.L.c, .int .i64 s2.c, .slice s2.V.p s2.V.n s2.V.c, .slice s2.N.p s2.N.n s2.N.c, .slice s2.M.p s2.M.n s2.M.c] = u4 at HBX ⊢; generalize w4.heap.size = bk2 at HBX ⊢; have B2 := Lib.hid HBX.out.1; have HX := Lib.hid HBX.out.2; replace H0 := Lib.hid (H0.out.ext HX.out); replace H1 := Lib.hid (H1.out.ext HX.out); replace H2 := Lib.hid (H2.out.ext HX.out); replace B1 := Lib.hid (B1.out.ext HX.out); replace BS := Lib.hid (BS.out.ext HX.out); replace BC := Lib.hid (BC.out.ext HX.out); replace hx := Ext.trans hx HX.out; clear HX HBX HZ; have c1i : u4.cell? ⟨bk1, 0, none⟩ = some (.int .i64 s1.i) := box_val B1.out 0 rfl; have c1P : u4.cell? ⟨bk1, 1, none⟩ = some (.slice s1.P.p s1.P.n s1.P.c) := box_val B1.out 1 rfl; have c1t : u4.cell? ⟨bk1, 2, none⟩ = some (.int .i64 s1.t) := box_val B1.out 2 rfl; have c1v : u4.cell? ⟨bk1, 3, none⟩ = some (.int .i64 s1.v) := box_val B1.out 3 rfl; have c1r : u4.cell? ⟨bk1, 4, none⟩ = some (.int .i64 s1.r) := box_val B1.out 4 rfl; have c1L : u4.cell? ⟨bk1, 5, none⟩ = some (.slice s1.L.p s1.L.n s1.L.c) := box_val B1.out 5 rfl; have c1c : u4.cell? ⟨bk1, 6, none⟩ = some (.int .i64 s1.c) := box_val B1.out 6 rfl; have c1V : u4.cell? ⟨bk1, 7, none⟩ = some (.slice s1.V.p s1.V.n s1.V.c) := box_val B1.out 7 rfl; have c1N : u4.cell? ⟨bk1, 8, none⟩ = some (.slice s1.N.p s1.N.n s1.N.c) := box_val B1.out 8 rfl; have c1M : u4.cell? ⟨bk1, 9, none⟩ = some (.slice s1.M.p s1.M.n s1.M.c) := box_val B1.out 9 rfl; have c2i : u4.cell? ⟨bk2, 0, none⟩ = some (.int .i64 s2.i) := box_val B2.out 0 rfl; have c2P : u4.cell? ⟨bk2, 1, none⟩ = some (.slice s2.P.p s2.P.n s2.P.c) := box_val B2.out 1 rfl; have c2t : u4.cell? ⟨bk2, 2, none⟩ = some (.int .i64 s2.t) := box_val B2.out 2 rfl; have c2v : u4.cell? ⟨bk2, 3, none⟩ = some (.int .i64 s2.v) := box_val B2.out 3 rfl; have c2r : u4.cell? ⟨bk2, 4, none⟩ = some (.int .i64 s2.r) := box_val B2.out 4 rfl; have c2L : u4.cell? ⟨bk2, 5, none⟩ = some (.slice s2.L.p s2.L.n s2.L.c) := box_val B2.out 5 rfl; have c2c : u4.cell? ⟨bk2, 6, none⟩ = some (.int .i64 s2.c) := box_val B2.out 6 rfl; have c2V : u4.cell? ⟨bk2, 7, none⟩ = some (.slice s2.V.p s2.V.n s2.V.c) := box_val B2.out 7 rfl; have c2N : u4.cell? ⟨bk2, 8, none⟩ = some (.slice s2.N.p s2.N.n s2.N.c) := box_val B2.out 8 rfl; have c2M : u4.cell? ⟨bk2, 9, none⟩ = some (.slice s2.M.p s2.M.n s2.M.c) := box_val B2.out 9 rfl)
  refine (rsame_any s1 s2 d1 d1 _ H1.out H2.out).mono ?_
  rintro e w5 ⟨e1, rfl, hb0, hx1⟩
  have HQe1 := Lib.hid hb0
  have HX := Lib.hid hx1
  replace H0 := Lib.hid (H0.out.ext HX.out)
  replace H1 := Lib.hid (H1.out.ext HX.out)
  replace H2 := Lib.hid (H2.out.ext HX.out)
  replace B1 := Lib.hid (B1.out.ext HX.out)
  replace B2 := Lib.hid (B2.out.ext HX.out)
  replace BS := Lib.hid (BS.out.ext HX.out)
  replace BC := Lib.hid (BC.out.ext HX.out)
  replace hx := Ext.trans hx HX.out
  clear hx1 hb0 HX
  obtain rfl : e1 = true := HQe1.out.2 rfl
  clear c1i c1P c1t c1v c1r c1L c1c c1V c1N c1M
  clear c2i c2P c2t c2v c2r c2L c2c c2V c2N c2M
  have c1i : w5.cell? ⟨bk1, 0, none⟩ = some (.int .i64 s1.i) := box_val B1.out 0 rfl
  have c1P : w5.cell? ⟨bk1, 1, none⟩ = some (.slice s1.P.p s1.P.n s1.P.c) := box_val B1.out 1 rfl
  have c1t : w5.cell? ⟨bk1, 2, none⟩ = some (.int .i64 s1.t) := box_val B1.out 2 rfl
  have c1v : w5.cell? ⟨bk1, 3, none⟩ = some (.int .i64 s1.v) := box_val B1.out 3 rfl
  have c1r : w5.cell? ⟨bk1, 4, none⟩ = some (.int .i64 s1.r) := box_val B1.out 4 rfl
  have c1L : w5.cell? ⟨bk1, 5, none⟩ = some (.slice s1.L.p s1.L.n s1.L.c) := box_val B1.out 5 rfl
  have c1c : w5.cell? ⟨bk1, 6, none⟩ = some (.int .i64 s1.c) := box_val B1.out 6 rfl
  have c1V : w5.cell? ⟨bk1, 7, none⟩ = some (.slice s1.V.p s1.V.n s1.V.c) := box_val B1.out 7 rfl
  have c1N : w5.cell? ⟨bk1, 8, none⟩ = some (.slice s1.N.p s1.N.n s1.N.c) := box_val B1.out 8 rfl
  have c1M : w5.cell? ⟨bk1, 9, none⟩ = some (.slice s1.M.p s1.M.n s1.M.c) := box_val B1.out 9 rfl
  have c0i : w5.cell? ⟨w.heap.size, 0, none⟩ = some (.int .i64 s.i) := box_val BS.out 0 rfl
  have c0P : w5.cell? ⟨w.heap.size, 1, none⟩ = some (.slice s.P.p s.P.n s.P.c) := box_val BS.out 1 rfl
  have c0t : w5.cell? ⟨w.heap.size, 2, none⟩ = some (.int .i64 s.t) := box_val BS.out 2 rfl
  have c0v : w5.cell? ⟨w.heap.size, 3, none⟩ = some (.int .i64 s.v) := box_val BS.out 3 rfl
  have c0r : w5.cell? ⟨w.heap.size, 4, none⟩ = some (.int .i64 s.r) := box_val BS.out 4 rfl
  have c0L : w5.cell? ⟨w.heap.size, 5, none⟩ = some (.slice s.L.p s.L.n s.L.c) := box_val BS.out 5 rfl
  have c0c : w5.cell? ⟨w.heap.size, 6, none⟩ = some (.int .i64 s.c) := box_val BS.out 6 rfl
  have c0V : w5.cell? ⟨w.heap.size, 7, none⟩ = some (.slice s.V.p s.V.n s.V.c) := box_val BS.out 7 rfl
  have c0N : w5.cell? ⟨w.heap.size, 8, none⟩ = some (.slice s.N.p s.N.n s.N.c) := box_val BS.out 8 rfl
  have c0M : w5.cell? ⟨w.heap.size, 9, none⟩ = some (.slice s.M.p s.M.n s.M.c) := box_val BS.out 9 rfl
  go_wp2_with fail
  refine (rsame_any s1 s d1 d _ H1.out H0.out).mono ?_
  rintro e w6 ⟨e2, rfl, hb0, hx1⟩
  have HQe2 := Lib.hid hb0
  have HX := Lib.hid hx1
  replace H0 := Lib.hid (H0.out.ext HX.out)
  replace H1 := Lib.hid (H1.out.ext HX.out)
  replace H2 := Lib.hid (H2.out.ext HX.out)
  replace B1 := Lib.hid (B1.out.ext HX.out)
  replace B2 := Lib.hid (B2.out.ext HX.out)
  replace BS := Lib.hid (BS.out.ext HX.out)
  replace BC := Lib.hid (BC.out.ext HX.out)
  replace hx := Ext.trans hx HX.out
  clear hx1 hb0 HX
  clear c1i c1P c1t c1v c1r c1L c1c c1V c1N c1M
  clear c0i c0P c0t c0v c0r c0L c0c c0V c0N c0M
  have c0L : w6.cell? ⟨w.heap.size, 5, none⟩ = some (.slice s.L.p s.L.n s.L.c) := box_val BS.out 5 rfl
  have a3 : w6.cell? ⟨w.heap.size + 1, 3, none⟩ = some (.int .u16 x.2.2.2.1) := call_val BC.out 3 rfl
  have a4 : w6.cell? ⟨w.heap.size + 1, 4, none⟩ = some (.int .u8 x.2.2.2.2) := call_val BC.out 4 rfl
  go_wp2_with fail
  refine (rnewer_any s.L.p s.L.n s.L.c d.L _ H0.out.L.1 x.2.2.2.1 x.2.2.2.2).mono ?_
  rintro e w' ⟨rfl, rfl⟩
  obtain ⟨n1, hn1⟩ : ∃ n1, newerB d.L x.2.2.2.1 x.2.2.2.2 = n1 := ⟨_, rfl⟩
  rw [hn1]
  have HN1 : Hid (b1 = true → n1 = true) := Lib.hid (fun hb => by rw [← hn1]; exact ask_new (by rw [HK1.out]; exact hb))
  clear hn1
  have c1L : w6.cell? ⟨bk1, 5, none⟩ = some (.slice s1.L.p s1.L.n s1.L.c) := box_val B1.out 5 rfl
  go_wp2_with fail
  refine (rlog_any s1.L.p s.L.p s1.L.n s1.L.c s.L.n s.L.c d1.L d.L _ H1.out.L.1 H0.out.L.1).mono ?_
  rintro e w7 ⟨rfl, hx1⟩
  rw [show decide (d1.L = d.L) = true from decide_eq_true (by rw [← HD1.out, askD_L])]
  have HX := Lib.hid hx1
  replace H0 := Lib.hid (H0.out.ext HX.out)
  replace H1 := Lib.hid (H1.out.ext HX.out)
  replace H2 := Lib.hid (H2.out.ext HX.out)
  replace B1 := Lib.hid (B1.out.ext HX.out)
  replace B2 := Lib.hid (B2.out.ext HX.out)
  replace BS := Lib.hid (BS.out.ext HX.out)
  replace BC := Lib.hid (BC.out.ext HX.out)
  replace hx := Ext.trans hx HX.out
  clear hx1 HX c0L c1L a3 a4
  have c1c : w7.cell? ⟨bk1, 6, none⟩ = some (.int .i64 s1.c) := box_val B1.out 6 rfl
  have c1t : w7.cell? ⟨bk1, 2, none⟩ = some (.int .i64 s1.t) := box_val B1.out 2 rfl
  have c1r : w7.cell? ⟨bk1, 4, none⟩ = some (.int .i64 s1.r) := box_val B1.out 4 rfl
  have c1V : w7.cell? ⟨bk1, 7, none⟩ = some (.slice s1.V.p s1.V.n s1.V.c) := box_val B1.out 7 rfl
  have c0c : w7.cell? ⟨w.heap.size, 6, none⟩ = some (.int .i64 s.c) := box_val BS.out 6 rfl
  have c0t : w7.cell? ⟨w.heap.size, 2, none⟩ = some (.int .i64 s.t) := box_val BS.out 2 rfl
  have a1 : w7.cell? ⟨w.heap.size + 1, 1, none⟩ = some (.int .u16 x.2.1) := call_val BC.out 1 rfl
  have ec : s1.c = s.c := by rw [H1.out.c, H0.out.c, ← HD1.out, askD_c]
  rw [ec] at c1c
  clear ec
  have hb2 : (s.c != s.c) = false := by simp
  have hn : b1 = true → n1 = true := HN1.out
  by_cases hlt : x.2.1 < s.t
  · have e0 : d1 = d ∧ b1 = false := by
      have h := ask_old (d := d) (t := x.2.1) (who := x.2.2.1) (last := x.2.2.2.1) (many := x.2.2.2.2) (by rw [← H0.out.t]; exact hlt)
      have hb : b1 = false := by rw [← HK1.out]; exact h.1
      exact ⟨by rw [← HD1.out, hb]; exact h.2, hb⟩
    obtain rfl : e2 = true := HQe2.out.2 e0.1
    obtain rfl : b1 = false := e0.2
    clear e0 hn
    go_wp2
    go_ret
    exact ⟨rfl, hx⟩
  have HLT := Lib.hid hlt
  have et : s1.t = x.2.1 := by rw [H1.out.t, ← HD1.out, askD_t, upD_tt (by rw [← H0.out.t]; exact HLT.out)]
  rw [et] at c1t
  clear et
  have hbt : (x.2.1 == x.2.1) = true := by simp
  by_cases heq : x.2.1 = s.t
  · have h2 : (x.2.1 == s.t) = true := by simp [heq]
    have HE := Lib.hid heq
    clear heq
    cases b1
    · clear hn
      go_wp2
      go_ret
      exact ⟨rfl, hx⟩
    · obtain rfl : n1 = true := hn rfl
      clear hn
      go_wp2
      go_ret
      exact ⟨rfl, hx⟩
  · have h2 : (x.2.1 == s.t) = false := by simp [heq]
    have HE := Lib.hid heq
    clear heq
    have hup : upD d x.2.1 = downD d x.2.1 := by
      unfold upD; rw [if_pos]
      have h := H0.out.t
      have h1 := HLT.out
      have h3 := HE.out
      omega
    have hr : s1.r = 1 := by rw [H1.out.r, ← HD1.out]; unfold askD; split <;> rw [hup] <;> rfl
    have hV : s1.V.n = 0 := by
      have h := H1.out.V.1.1
      have e : d1.V = [] := by rw [← HD1.out]; unfold askD; split <;> rw [hup] <;> rfl
      rw [e] at h; exact h.symm
    rw [hr] at c1r
    rw [hV] at c1V
    clear hup hr hV
    cases b1
    · clear hn
      go_wp2
      go_ret
      exact ⟨rfl, hx⟩
    · obtain rfl : n1 = true := hn rfl
      clear hn
      go_wp2
      go_ret
      exact ⟨rfl, hx⟩
end Go.Proofs.Ytmcenioblbcehaa.Lg
