/- Votes: the walk of VoteTells. -/
import Derived.Test.YtmcenioblbcehaaVoteL
namespace Go.Proofs.Ytmcenioblbcehaa.Lg
open Go.RowKit Go.Proofs.Ytmcenioblbcehaa
set_option linter.unusedVariables false
theorem upD_i (d : St) (t : Int) : (upD d t).i = d.i := by unfold upD; split <;> rfl
theorem askD_i (d : St) (b : Bool) (t who : Int) : (askD d b t who).i = d.i := by unfold askD; split <;> exact upD_i d t
theorem upD_le (d : St) (t : Int) : (upD d t).t = if d.t < t then t else d.t := by unfold upD; split <;> rfl
/-- what one call makes of a seat -/
structure StepF (d d1 : St) (b : Bool) (x : Cl) : Prop where
  le : d.t ≤ d1.t
  i : d1.i = d.i
  c : d1.c = d.c
  up : d1.t ≤ d.t + 1 ∨ d1.t ≤ 65535
  new : x.1 % 4 = 0 → d1.t = d.t + 1 ∧ d1.v = d.i ∧ b = false
  yes : ¬ x.1 % 4 = 0 → b = true → d1.v = x.2.2.1 ∧ (¬ d.t < d1.t → d.v = -1 ∨ d.v = x.2.2.1)
  no : ¬ x.1 % 4 = 0 → b = false → (d.t < d1.t → d1.v = -1) ∧ (¬ d.t < d1.t → d1.v = d.v)
theorem upD_v (d : St) (t : Int) : (d.t < (upD d t).t → (upD d t).v = -1) ∧ (¬ d.t < (upD d t).t → (upD d t).v = d.v) := by
  unfold upD
  split
  · exact ⟨fun _ => rfl, fun h => absurd (by assumption) h⟩
  · exact ⟨fun h => by omega, fun _ => rfl⟩
theorem stepF (d : St) (x : Cl) (hc : ClOk x) : StepF d (stepD d x) (stepB d x) x := by
  have ht := hc.t1
  unfold stepD stepB
  by_cases h0 : x.1 % 4 = 0
  · rw [if_pos h0, if_pos h0]
    exact ⟨(show d.t ≤ d.t + 1 by omega), rfl, rfl, .inl (Int.le_refl _), fun _ => ⟨rfl, rfl, rfl⟩, fun h => absurd h0 h, fun h => absurd h0 h⟩
  rw [if_neg h0, if_neg h0]
  have hu := upD_v d x.2.1
  have hl := upD_le d x.2.1
  have hm : d.t ≤ (upD d x.2.1).t ∧ ((upD d x.2.1).t ≤ d.t + 1 ∨ (upD d x.2.1).t ≤ 65535) := by rw [hl]; split <;> omega
  by_cases h1 : x.1 % 4 = 1
  · rw [if_pos h1, if_pos h1]
    exact ⟨hm.1, upD_i _ _, upD_c _ _, hm.2, fun h => absurd h h0, fun _ h => (by cases h), fun _ _ => hu⟩
  rw [if_neg h1, if_neg h1]
  refine ⟨by rw [askD_t]; exact hm.1, askD_i _ _ _ _, askD_c _ _ _ _, by rw [askD_t]; exact hm.2, fun h => absurd h h0, fun _ hb => ?_, fun _ hb => ?_⟩
  · rw [hb, askD_t]
    refine ⟨rfl, fun hn => ?_⟩
    unfold askB at hb
    simp only [Bool.and_eq_true, decide_eq_true_eq] at hb
    have := hb.2.1
    rw [hu.2 hn] at this
    exact this
  · rw [hb, askD_t]; exact hu
theorem call_at {w : World} {p : Option Addr} {n : Nat} {l : List Cl} (h : LCall.Row w p n l) {j : Nat} (hj : j < n) :
    ∃ b off x, p = some ⟨b, off, none⟩ ∧ l[j]? = some x ∧ ClOk x ∧ ∀ (i : Nat) (u : Value), (callA x)[i]? = some u → w.cell? ⟨b, off + j * 5 + i, none⟩ = some u := by
  obtain ⟨b, off, x, cs, rfl, hy, hr, hc⟩ := h.get hj
  obtain ⟨e, hok⟩ := call_cells hr
  exact ⟨b, off, x, rfl, hy, hok, fun i u hu => by
    have := hc i u (by rw [← e] at hu; simpa using hu)
    rw [Nat.add_assoc]; exact this⟩
theorem info_call : (Try.prog.info? 31).map (·.size) = some 5 := by kernel_rfl
theorem call_one (x : Cl) : (callA x).all (·.oneCell') = true := by simp [callA, Value.oneCell']
theorem callbox_zero (w : World) : (w.alloc (.cells #[.int .u8 0, .int .u16 0, .int .u8 0, .int .u16 0, .int .u8 0] 31)).heap[w.heap.size]? = some (.cells #[.int .u8 0, .int .u16 0, .int .u8 0, .int .u16 0, .int .u8 0] 31 (0, 0)) := by
  have := heap_alloc_new w (.cells #[.int .u8 0, .int .u16 0, .int .u8 0, .int .u16 0, .int .u8 0] 31); simpa using this
theorem callbox_new (w : World) (x : Cl) : CallAt ((w.alloc (.cells #[.int .u8 0, .int .u16 0, .int .u8 0, .int .u16 0, .int .u8 0] 31)).setRow w.heap.size (callA x)) w.heap.size x ∧ Ext w ((w.alloc (.cells #[.int .u8 0, .int .u16 0, .int .u8 0, .int .u16 0, .int .u8 0] 31)).setRow w.heap.size (callA x)) :=
  ⟨setRow_heap _ _ _ _ _ _ (callbox_zero w), ext_setRow (Ext.alloc _ _) (Nat.le_refl _) _⟩
theorem BoxAt.setRow_ne {w : World} {B b : Nat} {s : SeatV} (h : BoxAt w b s) (hb : b ≠ B) (cs : Array Value) : BoxAt (w.setRow B cs) b s := by
  unfold BoxAt at h ⊢
  rw [setRow_other _ _ _ _ hb]; exact h
theorem CallAt.setRow_ne {w : World} {B b : Nat} {x : Cl} (h : CallAt w b x) (hb : b ≠ B) (cs : Array Value) : CallAt (w.setRow B cs) b x := by
  unfold CallAt at h ⊢
  rw [setRow_other _ _ _ _ hb]; exact h
theorem CallAt.lt {w : World} {B : Nat} {x : Cl} (h : CallAt w B x) : B < w.heap.size := (Array.getElem?_eq_some_iff.1 h).1
theorem BoxAt.set {w : World} {B : Nat} {s s1 : SeatV} (h : BoxAt w B s) : BoxAt (w.setRow B (seatA s1)) B s1 := setRow_heap _ _ _ _ _ _ h
def TellsR (w : World) (B n : Nat) (s0 : SeatV) (d0 : St) (i : Value) (wr : World) : Prop :=
  ∃ (k : Nat) (s : SeatV) (d : St), i = .int .i64 k ∧ k ≤ n ∧ Ext w wr ∧ Hid (BoxAt wr B s) ∧ Hid (SeatK w (fun k => k = B) wr s d) ∧ Hid (BoxAt wr w.heap.size s0) ∧ Hid (d.i = d0.i ∧ d.c = d0.c ∧ 0 ≤ d.t ∧ d.t ≤ 1000000 + k)

set_option maxRecDepth 100000 in
set_option maxHeartbeats 16000000 in
theorem tells_walk {p1 p2 : Option Addr} {n c1 m c2 : Nat} {l : List Cl} {ms : List Int} (s0 : SeatV) (d0 : St) (w : World) (h : SeatR w s0 d0) (hl : LCall.Row w p1 n l) (hm : LI.Row w p2 m ms) :
    Calls Try.prog 3 #[.agg (seatA s0), .slice p1 n c1, .slice p2 m c2] w fun e w' => e = .returned (.bool true) ∧ Ext w w' := by
  have H0 := Lib.hid h
  have HL := Lib.hid hl
  have HM := Lib.hid hm.ints.1
  have hn := hl.2.1
  have hm0 := hm.2.1
  have HR0 : Hid (∀ W, Ext w W → SeatR W s0 d0) := Lib.hid (fun W hW => h.ext hW)
  have BS : Hid (BoxAt (w.alloc (.cells #[.int .i64 s0.i, .slice s0.P.p s0.P.n s0.P.c, .int .i64 s0.t, .int .i64 s0.v, .int .i64 s0.r, .slice s0.L.p s0.L.n s0.L.c, .int .i64 s0.c, .slice s0.V.p s0.V.n s0.V.c, .slice s0.N.p s0.N.n s0.N.c, .slice s0.M.p s0.M.n s0.M.c] 25)) w.heap.size s0) := Lib.hid (by have := heap_alloc_new w (.cells #[.int .i64 s0.i, .slice s0.P.p s0.P.n s0.P.c, .int .i64 s0.t, .int .i64 s0.v, .int .i64 s0.r, .slice s0.L.p s0.L.n s0.L.c, .int .i64 s0.c, .slice s0.V.p s0.V.n s0.V.c, .slice s0.N.p s0.N.n s0.N.c, .slice s0.M.p s0.M.n s0.M.c] 25); simpa [BoxAt, seatA] using this)
  have hx : Ext w (w.alloc (.cells #[.int .i64 s0.i, .slice s0.P.p s0.P.n s0.P.c, .int .i64 s0.t, .int .i64 s0.v, .int .i64 s0.r, .slice s0.L.p s0.L.n s0.L.c, .int .i64 s0.c, .slice s0.V.p s0.V.n s0.V.c, .slice s0.N.p s0.N.n s0.N.c, .slice s0.M.p s0.M.n s0.M.c] 25)) := Ext.alloc _ _
  clear h hl hm
  unfold seatA
  go_enter Try.func3, Try.ntmps3
  go_wp2_with fail
  refine (head_any _).mono ?_
  rintro e w1 ⟨rfl, hx1⟩
  replace BS := Lib.hid (BS.out.ext hx1)
  replace hx := Ext.trans hx hx1
  replace H0 := Lib.hid (H0.out.ext hx)
  clear hx1
  have ci : w1.cell? ⟨w.heap.size, 0, none⟩ = some (.int .i64 s0.i) := box_val BS.out 0 rfl
  have cP : w1.cell? ⟨w.heap.size, 1, none⟩ = some (.slice s0.P.p s0.P.n s0.P.c) := box_val BS.out 1 rfl
  have ct : w1.cell? ⟨w.heap.size, 2, none⟩ = some (.int .i64 s0.t) := box_val BS.out 2 rfl
  have cv : w1.cell? ⟨w.heap.size, 3, none⟩ = some (.int .i64 s0.v) := box_val BS.out 3 rfl
  have cr : w1.cell? ⟨w.heap.size, 4, none⟩ = some (.int .i64 s0.r) := box_val BS.out 4 rfl
  have cL : w1.cell? ⟨w.heap.size, 5, none⟩ = some (.slice s0.L.p s0.L.n s0.L.c) := box_val BS.out 5 rfl
  have cc : w1.cell? ⟨w.heap.size, 6, none⟩ = some (.int .i64 s0.c) := box_val BS.out 6 rfl
  have cV : w1.cell? ⟨w.heap.size, 7, none⟩ = some (.slice s0.V.p s0.V.n s0.V.c) := box_val BS.out 7 rfl
  have cN : w1.cell? ⟨w.heap.size, 8, none⟩ = some (.slice s0.N.p s0.N.n s0.N.c) := box_val BS.out 8 rfl
  have cM : w1.cell? ⟨w.heap.size, 9, none⟩ = some (.slice s0.M.p s0.M.n s0.M.c) := box_val BS.out 9 rfl
  go_wp2_with fail
  refine (fits_seat s0 d0 _ H0.out).mono ?_
  rintro e w2 ⟨⟨q, rfl, hq⟩, hx1⟩
  replace BS := Lib.hid (BS.out.ext hx1)
  replace hx := Ext.trans hx hx1
  replace H0 := Lib.hid (H0.out.ext hx1)
  clear hx1
  clear ci cP ct cv cr cL cc cV cN cM
  cases q
  · clear hq
    go_wp2
    go_ret
    exact ⟨rfl, hx⟩
  have HF := Lib.hid (hq rfl)
  clear hq
  by_cases h30 : (30 : Int) < (n : Int)
  · go_wp2
    go_ret
    exact ⟨rfl, hx⟩
  by_cases h31 : (30 : Int) < (m : Int)
  · go_wp2
    go_ret
    exact ⟨rfl, hx⟩
  have ci : w2.cell? ⟨w.heap.size, 0, none⟩ = some (.int .i64 s0.i) := box_val BS.out 0 rfl
  have cP : w2.cell? ⟨w.heap.size, 1, none⟩ = some (.slice s0.P.p s0.P.n s0.P.c) := box_val BS.out 1 rfl
  have ct : w2.cell? ⟨w.heap.size, 2, none⟩ = some (.int .i64 s0.t) := box_val BS.out 2 rfl
  have cv : w2.cell? ⟨w.heap.size, 3, none⟩ = some (.int .i64 s0.v) := box_val BS.out 3 rfl
  have cr : w2.cell? ⟨w.heap.size, 4, none⟩ = some (.int .i64 s0.r) := box_val BS.out 4 rfl
  have cL : w2.cell? ⟨w.heap.size, 5, none⟩ = some (.slice s0.L.p s0.L.n s0.L.c) := box_val BS.out 5 rfl
  have cc : w2.cell? ⟨w.heap.size, 6, none⟩ = some (.int .i64 s0.c) := box_val BS.out 6 rfl
  have cV : w2.cell? ⟨w.heap.size, 7, none⟩ = some (.slice s0.V.p s0.V.n s0.V.c) := box_val BS.out 7 rfl
  have cN : w2.cell? ⟨w.heap.size, 8, none⟩ = some (.slice s0.N.p s0.N.n s0.N.c) := box_val BS.out 8 rfl
  have cM : w2.cell? ⟨w.heap.size, 9, none⟩ = some (.slice s0.M.p s0.M.n s0.M.c) := box_val BS.out 9 rfl
  have HBX : Hid (BoxAt ((w2.alloc (.cells #[.int .i64 0, .slice none 0 0, .int .i64 0, .int .i64 0, .int .i64 0, .slice none 0 0, .int .i64 0, .slice none 0 0, .slice none 0 0, .slice none 0 0] 25)).setRow w2.heap.size #[.int .i64 s0.i, .slice s0.P.p s0.P.n s0.P.c, .int .i64 s0.t, .int .i64 s0.v, .int .i64 s0.r, .slice s0.L.p s0.L.n s0.L.c, .int .i64 s0.c, .slice s0.V.p s0.V.n s0.V.c, .slice s0.N.p s0.N.n s0.N.c, .slice s0.M.p s0.M.n s0.M.c]) w2.heap.size s0 ∧ Ext w2 ((w2.alloc (.cells #[.int .i64 0, .slice none 0 0, .int .i64 0, .int .i64 0, .int .i64 0, .slice none 0 0, .int .i64 0, .slice none 0 0, .slice none 0 0, .slice none 0 0] 25)).setRow w2.heap.size #[.int .i64 s0.i, .slice s0.P.p s0.P.n s0.P.c, .int .i64 s0.t, .int .i64 s0.v, .int .i64 s0.r, .slice s0.L.p s0.L.n s0.L.c, .int .i64 s0.c, .slice s0.V.p s0.V.n s0.V.c, .slice s0.N.p s0.N.n s0.N.c, .slice s0.M.p s0.M.n s0.M.c])) := Lib.hid (box_new w2 s0)
  have HZHBX := Lib.hid (box_zero w2)
  have hBB : w.heap.size < w2.heap.size := BS.out.lt
  go_wp2_with ((with_reducible refine wpList_store_row (o := ⟨none, .store 25 (.tmp 9) (.tmp 35), _, _, _, _⟩) ?_ 25 (.tmp 9) (.tmp 35) ?_ w2.heap.size #[.int .i64 s0.i, .slice s0.P.p s0.P.n s0.P.c, .int .i64 s0.t, .int .i64 s0.v, .int .i64 s0.r, .slice s0.L.p s0.L.n s0.L.c, .int .i64 s0.c, .slice s0.V.p s0.V.n s0.V.c, .slice s0.N.p s0.N.n s0.N.c, .slice s0.M.p s0.M.n s0.M.c] ?_ ?_ 25 #[.int .i64 0, .slice none 0 0, .int .i64 0, .int .i64 0, .int .i64 0, .slice none 0 0, .int .i64 0, .slice none 0 0, .slice none 0 0, .slice none 0 0] ?_ ?_ ?_ ?_ ?_); (exact rfl); (exact rfl); (exact rfl); (exact rfl); (exact HZHBX.out); (exact info_seat); (exact rfl); (exact seat_one s0); generalize (w2.alloc (.cells #[.int .i64 0, .slice none 0 0, .int .i64 0, .int .i64 0, .int .i64 0, .slice none 0 0, .int .i64 0, .slice none 0 0, .slice none 0 0, .slice none 0 0] 25)).setRow w2.heap.size #[.int .i64 s0.i, .slice s0.P.p s0.P.n s0.P.c, .int .i64 s0.t, .int .i64 s0.v, .int .i64 s0.r, .slice s0.L.p s0.L.n s0.L.c, .int .i64 s0.c, .slice s0.V.p s0.V.n s0.V.c, .slice s0.N.p s0.N.n s0.N.c, .slice s0.M.p s0.M.n s0.M.c] = u2 at HBX ⊢; generalize w2.heap.size = B at HBX hBB ⊢)
  have B7 := Lib.hid HBX.out.1
  replace BS := Lib.hid (BS.out.ext HBX.out.2)
  have hxu : Ext w u2 := Ext.trans hx HBX.out.2
  have HKK : Hid (SeatK w (fun k => k = B) u2 s0 d0) := Lib.hid (fun W a => HR0.out W a.ext)
  clear HBX HZHBX hx
  clear ci cP ct cv cr cL cc cV cN cM
  go_loopw [10] (fun i wr => TellsR w B n s0 d0 i wr) (fun i _ => n - (intOf i).toNat)
  case atStart => exact ⟨0, s0, d0, rfl, by omega, hxu, B7, HKK, BS, Lib.hid ⟨rfl, rfl, HF.out.t0, by have := HF.out.t1; omega⟩⟩
  case round =>
    clear hxu B7 HKK BS H0
    obtain ⟨k, s, d, rfl, hk, hx, HB, HK, HS, HD⟩ := hrel
    by_cases hlt : k < n
    · have hlt' : (k : Int) < (n : Int) := by omega
      have hlt0 : (0 : Int) ≤ (k : Int) := by omega
      obtain ⟨b, off, x, rfl, hy, hok, hcx⟩ := call_at (HL.out.ext hx) hlt
      have HCX := Lib.hid hcx
      have HOK := Lib.hid hok
      obtain ⟨cd0, cd1, ct0, ct1, cw0, cw1, cl0, cl1, cm0, cm1⟩ := hok
      clear hy hcx
      have hb0 : 0 ≤ d.i ∧ d.i ≤ 1000000 := by rw [HD.out.1]; exact ⟨HF.out.i0, HF.out.i1⟩
      have ht0 : 0 ≤ d.t ∧ d.t ≤ 1000000000 := ⟨HD.out.2.2.1, by have := HD.out.2.2.2; omega⟩
      have HI := Lib.hid hb0
      have HTT := Lib.hid ht0
      clear hb0 ht0
      have e0 : wr.cell? ⟨b, off + k * 5, none⟩ = some (.int .u8 x.1) := HCX.out 0 _ rfl
      have e1 : wr.cell? ⟨b, off + k * 5 + 1, none⟩ = some (.int .u16 x.2.1) := HCX.out 1 _ rfl
      have e2 : wr.cell? ⟨b, off + k * 5 + 2, none⟩ = some (.int .u8 x.2.2.1) := HCX.out 2 _ rfl
      have e3 : wr.cell? ⟨b, off + k * 5 + 3, none⟩ = some (.int .u16 x.2.2.2.1) := HCX.out 3 _ rfl
      have e4 : wr.cell? ⟨b, off + k * 5 + 4, none⟩ = some (.int .u8 x.2.2.2.2) := HCX.out 4 _ rfl
      have HCB : Hid (CallAt ((wr.alloc (.cells #[.int .u8 0, .int .u16 0, .int .u8 0, .int .u16 0, .int .u8 0] 31)).setRow wr.heap.size #[.int .u8 x.1, .int .u16 x.2.1, .int .u8 x.2.2.1, .int .u16 x.2.2.2.1, .int .u8 x.2.2.2.2]) wr.heap.size x ∧ Ext wr ((wr.alloc (.cells #[.int .u8 0, .int .u16 0, .int .u8 0, .int .u16 0, .int .u8 0] 31)).setRow wr.heap.size #[.int .u8 x.1, .int .u16 x.2.1, .int .u8 x.2.2.1, .int .u16 x.2.2.2.1, .int .u8 x.2.2.2.2])) := Lib.hid (callbox_new wr x)
      have HCZ := Lib.hid (callbox_zero wr)
      go_wp2_with ((with_reducible refine wpList_store_row (o := ⟨none, .store 31 (.tmp 11) (.tmp 45), _, _, _, _⟩) ?_ 31 (.tmp 11) (.tmp 45) ?_ wr.heap.size #[.int .u8 x.1, .int .u16 x.2.1, .int .u8 x.2.2.1, .int .u16 x.2.2.2.1, .int .u8 x.2.2.2.2] ?_ ?_ 31 #[.int .u8 0, .int .u16 0, .int .u8 0, .int .u16 0, .int .u8 0] ?_ ?_ ?_ ?_ ?_); (exact rfl); (exact rfl); (exact rfl); (exact rfl); (exact HCZ.out); (exact info_call); (exact rfl); (exact call_one x); generalize (wr.alloc (.cells #[.int .u8 0, .int .u16 0, .int .u8 0, .int .u16 0, .int .u8 0] 31)).setRow wr.heap.size #[.int .u8 x.1, .int .u16 x.2.1, .int .u8 x.2.2.1, .int .u16 x.2.2.2.1, .int .u8 x.2.2.2.2] = u1 at HCB ⊢; generalize wr.heap.size = b11 at HCB ⊢; have ci : u1.cell? ⟨B, 0, none⟩ = some (.int .i64 s.i) := box_val (HB.out.ext HCB.out.2) 0 rfl; have cP : u1.cell? ⟨B, 1, none⟩ = some (.slice s.P.p s.P.n s.P.c) := box_val (HB.out.ext HCB.out.2) 1 rfl; have ct : u1.cell? ⟨B, 2, none⟩ = some (.int .i64 s.t) := box_val (HB.out.ext HCB.out.2) 2 rfl; have cv : u1.cell? ⟨B, 3, none⟩ = some (.int .i64 s.v) := box_val (HB.out.ext HCB.out.2) 3 rfl; have cr : u1.cell? ⟨B, 4, none⟩ = some (.int .i64 s.r) := box_val (HB.out.ext HCB.out.2) 4 rfl; have cL : u1.cell? ⟨B, 5, none⟩ = some (.slice s.L.p s.L.n s.L.c) := box_val (HB.out.ext HCB.out.2) 5 rfl; have cc : u1.cell? ⟨B, 6, none⟩ = some (.int .i64 s.c) := box_val (HB.out.ext HCB.out.2) 6 rfl; have cV : u1.cell? ⟨B, 7, none⟩ = some (.slice s.V.p s.V.n s.V.c) := box_val (HB.out.ext HCB.out.2) 7 rfl; have cN : u1.cell? ⟨B, 8, none⟩ = some (.slice s.N.p s.N.n s.N.c) := box_val (HB.out.ext HCB.out.2) 8 rfl; have cM : u1.cell? ⟨B, 9, none⟩ = some (.slice s.M.p s.M.n s.M.c) := box_val (HB.out.ext HCB.out.2) 9 rfl; have a0 : u1.cell? ⟨b11, 0, none⟩ = some (.int .u8 x.1) := call_val HCB.out.1 0 rfl; have a1 : u1.cell? ⟨b11, 1, none⟩ = some (.int .u16 x.2.1) := call_val HCB.out.1 1 rfl; have a2 : u1.cell? ⟨b11, 2, none⟩ = some (.int .u8 x.2.2.1) := call_val HCB.out.1 2 rfl; have a3 : u1.cell? ⟨b11, 3, none⟩ = some (.int .u16 x.2.2.2.1) := call_val HCB.out.1 3 rfl; have a4 : u1.cell? ⟨b11, 4, none⟩ = some (.int .u8 x.2.2.2.2) := call_val HCB.out.1 4 rfl)
      have hx1 := HCB.out.2
      replace HB := Lib.hid (HB.out.ext hx1)
      replace HS := Lib.hid (HS.out.ext hx1)
      have HCL := Lib.hid HCB.out.1
      replace HK := Lib.hid (HK.out.ext hx1)
      replace hx := Ext.trans hx hx1
      clear hx1 HCB HCZ e0 e1 e2 e3 e4
      refine (step_any w (fun k => k = B) s d x u1 HK.out hx (fun k hk => by subst hk; exact HB.out.lt) HOK.out HI.out HTT.out).mono ?_
      rintro e w3 ⟨⟨s1, rfl, hs1⟩, hx1⟩
      clear ci cP ct cv cr cL cc cV cN cM
      clear a0 a1 a2 a3 a4
      have H1 := Lib.hid hs1
      replace HB := Lib.hid (HB.out.ext hx1)
      replace HS := Lib.hid (HS.out.ext hx1)
      replace HCL := Lib.hid (HCL.out.ext hx1)
      replace HK := Lib.hid (HK.out.ext hx1)
      replace hx := Ext.trans hx hx1
      clear hx1 hs1
      have HST := Lib.hid (stepF d x HOK.out)
      have HEQ : Hid (x.1 % 4 = 0 → stepD d x = beginD d ∧ stepB d x = false) := Lib.hid (fun h => ⟨by unfold stepD; rw [if_pos h], by unfold stepB; rw [if_pos h]⟩)
      have HEQ1 : Hid (x.1 % 4 = 1 → (d.t < x.2.1 → stepD d x = downD d x.2.1) ∧ (¬ d.t < x.2.1 → stepD d x = d) ∧ stepB d x = false) := Lib.hid (fun h => ⟨fun h2 => by unfold stepD upD; rw [if_neg (by omega), if_pos h, if_pos h2], fun h2 => by unfold stepD upD; rw [if_neg (by omega), if_pos h, if_neg h2], by unfold stepB; rw [if_neg (by omega), if_pos h]⟩)
      have HEQ2 : Hid (¬ x.1 % 4 = 0 → ¬ x.1 % 4 = 1 → stepD d x = askD d (stepB d x) x.2.1 x.2.2.1 ∧ askB d x.2.1 x.2.2.1 x.2.2.2.1 x.2.2.2.2 = stepB d x) := Lib.hid (fun h h2 => by unfold stepD stepB; rw [if_neg h, if_neg h2, if_neg h, if_neg h2]; exact ⟨rfl, rfl⟩)
      obtain ⟨d1, hd1⟩ : ∃ d1, stepD d x = d1 := ⟨_, rfl⟩
      obtain ⟨b1, hb1⟩ : ∃ b1, stepB d x = b1 := ⟨_, rfl⟩
      rw [hd1] at H1
      rw [hb1]
      rw [hd1, hb1] at HST
      rw [hd1, hb1] at HEQ
      rw [hd1, hb1] at HEQ1
      rw [hd1, hb1] at HEQ2
      clear hd1 hb1
      unfold seatA
      have HBX : Hid (BoxAt ((w3.alloc (.cells #[.int .i64 0, .slice none 0 0, .int .i64 0, .int .i64 0, .int .i64 0, .slice none 0 0, .int .i64 0, .slice none 0 0, .slice none 0 0, .slice none 0 0] 25)).setRow w3.heap.size #[.int .i64 s1.i, .slice s1.P.p s1.P.n s1.P.c, .int .i64 s1.t, .int .i64 s1.v, .int .i64 s1.r, .slice s1.L.p s1.L.n s1.L.c, .int .i64 s1.c, .slice s1.V.p s1.V.n s1.V.c, .slice s1.N.p s1.N.n s1.N.c, .slice s1.M.p s1.M.n s1.M.c]) w3.heap.size s1 ∧ Ext w3 ((w3.alloc (.cells #[.int .i64 0, .slice none 0 0, .int .i64 0, .int .i64 0, .int .i64 0, .slice none 0 0, .int .i64 0, .slice none 0 0, .slice none 0 0, .slice none 0 0] 25)).setRow w3.heap.size #[.int .i64 s1.i, .slice s1.P.p s1.P.n s1.P.c, .int .i64 s1.t, .int .i64 s1.v, .int .i64 s1.r, .slice s1.L.p s1.L.n s1.L.c, .int .i64 s1.c, .slice s1.V.p s1.V.n s1.V.c, .slice s1.N.p s1.N.n s1.N.c, .slice s1.M.p s1.M.n s1.M.c])) := Lib.hid (box_new w3 s1)
      have HZHBX := Lib.hid (box_zero w3)
      by_cases hk0 : x.1 % 4 = 0
      · obtain ⟨hd1, hb1⟩ := HEQ.out hk0
        subst hb1
        have hk0' : ¬ (1 : Int) < x.1 % 4 := by omega
        go_wp2_with (first | ((with_reducible refine wpList_store_row (o := ⟨none, .store 25 (.tmp 12) (.tmp 50), _, _, _, _⟩) ?_ 25 (.tmp 12) (.tmp 50) ?_ w3.heap.size #[.int .i64 s1.i, .slice s1.P.p s1.P.n s1.P.c, .int .i64 s1.t, .int .i64 s1.v, .int .i64 s1.r, .slice s1.L.p s1.L.n s1.L.c, .int .i64 s1.c, .slice s1.V.p s1.V.n s1.V.c, .slice s1.N.p s1.N.n s1.N.c, .slice s1.M.p s1.M.n s1.M.c] ?_ ?_ 25 #[.int .i64 0, .slice none 0 0, .int .i64 0, .int .i64 0, .int .i64 0, .slice none 0 0, .int .i64 0, .slice none 0 0, .slice none 0 0, .slice none 0 0] ?_ ?_ ?_ ?_ ?_); (exact rfl); (exact rfl); (exact rfl); (exact rfl); (exact HZHBX.out); (exact info_seat); (exact rfl); (exact seat_one s1); generalize (w3.alloc (.cells #[.int .i64 0, .slice none 0 0, .int .i64 0, .int .i64 0, .int .i64 0, .slice none 0 0, .int .i64 0, .slice none 0 0, .slice none 0 0, .slice none 0 0] 25)).setRow w3.heap.size #[.int .i64 s1.i, .slice s1.P.p s1.P.n s1.P.c, .int .i64 s1.t, .int .i64 s1.v, .int .i64 s1.r, .slice s1.L.p s1.L.n s1.L.c, .int .i64 s1.c, .slice s1.V.p s1.V.n s1.V.c, .slice s1.N.p s1.N.n s1.N.c, .slice s1.M.p s1.M.n s1.M.c] = u3 at HBX ⊢; generalize w3.heap.size = bq at HBX ⊢; have HB3 := Lib.hid (HB.out.ext HBX.out.2); have HCL3 := Lib.hid (HCL.out.ext HBX.out.2); have ci : u3.cell? ⟨B, 0, none⟩ = some (.int .i64 s.i) := box_val HB3.out 0 rfl; have cP : u3.cell? ⟨B, 1, none⟩ = some (.slice s.P.p s.P.n s.P.c) := box_val HB3.out 1 rfl; have ct : u3.cell? ⟨B, 2, none⟩ = some (.int .i64 s.t) := box_val HB3.out 2 rfl; have cv : u3.cell? ⟨B, 3, none⟩ = some (.int .i64 s.v) := box_val HB3.out 3 rfl; have cr : u3.cell? ⟨B, 4, none⟩ = some (.int .i64 s.r) := box_val HB3.out 4 rfl; have cL : u3.cell? ⟨B, 5, none⟩ = some (.slice s.L.p s.L.n s.L.c) := box_val HB3.out 5 rfl; have cc : u3.cell? ⟨B, 6, none⟩ = some (.int .i64 s.c) := box_val HB3.out 6 rfl; have cV : u3.cell? ⟨B, 7, none⟩ = some (.slice s.V.p s.V.n s.V.c) := box_val HB3.out 7 rfl; have cN : u3.cell? ⟨B, 8, none⟩ = some (.slice s.N.p s.N.n s.N.c) := box_val HB3.out 8 rfl; have cM : u3.cell? ⟨B, 9, none⟩ = some (.slice s.M.p s.M.n s.M.c) := box_val HB3.out 9 rfl; have HBY : Hid (BoxAt ((u3.alloc (.cells #[.int .i64 0, .slice none 0 0, .int .i64 0, .int .i64 0, .int .i64 0, .slice none 0 0, .int .i64 0, .slice none 0 0, .slice none 0 0, .slice none 0 0] 25)).setRow u3.heap.size #[.int .i64 s.i, .slice s.P.p s.P.n s.P.c, .int .i64 s.t, .int .i64 s.v, .int .i64 s.r, .slice s.L.p s.L.n s.L.c, .int .i64 s.c, .slice s.V.p s.V.n s.V.c, .slice s.N.p s.N.n s.N.c, .slice s.M.p s.M.n s.M.c]) u3.heap.size s ∧ Ext u3 ((u3.alloc (.cells #[.int .i64 0, .slice none 0 0, .int .i64 0, .int .i64 0, .int .i64 0, .slice none 0 0, .int .i64 0, .slice none 0 0, .slice none 0 0, .slice none 0 0] 25)).setRow u3.heap.size #[.int .i64 s.i, .slice s.P.p s.P.n s.P.c, .int .i64 s.t, .int .i64 s.v, .int .i64 s.r, .slice s.L.p s.L.n s.L.c, .int .i64 s.c, .slice s.V.p s.V.n s.V.c, .slice s.N.p s.N.n s.N.c, .slice s.M.p s.M.n s.M.c])) := Lib.hid (box_new u3 s); have HZHBY := Lib.hid (box_zero u3); have HK3 : Hid (SeatK w (fun k => k = B ∨ k = u3.heap.size) u3 s d) := Lib.hid (((HK.out.ext HBX.out.2)).wide (fun k hk h => h.elim id (fun e => absurd hk (by rw [e]; exact Nat.lt_irrefl _)))); have H13 : Hid (SeatK w (fun k => k = B ∨ k = u3.heap.size) u3 s1 d1) := Lib.hid (((H1.out.ext HBX.out.2)).wide (fun k hk h => h.elim id (fun e => absurd hk (by rw [e]; exact Nat.lt_irrefl _)))); have hbq : bq < u3.heap.size := HBX.out.1.lt; have hB3 : B < u3.heap.size := HB3.out.lt; have hC3 : b11 < u3.heap.size := HCL3.out.lt) | ((with_reducible refine wpList_store_row (o := ⟨none, .store 25 (.tmp 14) (.tmp 52), _, _, _, _⟩) ?_ 25 (.tmp 14) (.tmp 52) ?_ u3.heap.size #[.int .i64 s.i, .slice s.P.p s.P.n s.P.c, .int .i64 s.t, .int .i64 s.v, .int .i64 s.r, .slice s.L.p s.L.n s.L.c, .int .i64 s.c, .slice s.V.p s.V.n s.V.c, .slice s.N.p s.N.n s.N.c, .slice s.M.p s.M.n s.M.c] ?_ ?_ 25 #[.int .i64 0, .slice none 0 0, .int .i64 0, .int .i64 0, .int .i64 0, .slice none 0 0, .int .i64 0, .slice none 0 0, .slice none 0 0, .slice none 0 0] ?_ ?_ ?_ ?_ ?_); (exact rfl); (exact rfl); (exact rfl); (exact rfl); (exact HZHBY.out); (exact info_seat); (exact rfl); (exact seat_one s); generalize (u3.alloc (.cells #[.int .i64 0, .slice none 0 0, .int .i64 0, .int .i64 0, .int .i64 0, .slice none 0 0, .int .i64 0, .slice none 0 0, .slice none 0 0, .slice none 0 0] 25)).setRow u3.heap.size #[.int .i64 s.i, .slice s.P.p s.P.n s.P.c, .int .i64 s.t, .int .i64 s.v, .int .i64 s.r, .slice s.L.p s.L.n s.L.c, .int .i64 s.c, .slice s.V.p s.V.n s.V.c, .slice s.N.p s.N.n s.N.c, .slice s.M.p s.M.n s.M.c] = u4 at HBY ⊢; generalize u3.heap.size = bw at HBY HK3 H13 hbq hB3 hC3 ⊢; clear ci cP ct cv cr cL cc cV cN cM; have HB4 := Lib.hid (HB3.out.ext HBY.out.2); have HCL4 := Lib.hid (HCL3.out.ext HBY.out.2); have HQ4 := Lib.hid (HBX.out.1.ext HBY.out.2); have ci : u4.cell? ⟨B, 0, none⟩ = some (.int .i64 s.i) := box_val HB4.out 0 rfl; have cP : u4.cell? ⟨B, 1, none⟩ = some (.slice s.P.p s.P.n s.P.c) := box_val HB4.out 1 rfl; have ct : u4.cell? ⟨B, 2, none⟩ = some (.int .i64 s.t) := box_val HB4.out 2 rfl; have cv : u4.cell? ⟨B, 3, none⟩ = some (.int .i64 s.v) := box_val HB4.out 3 rfl; have cr : u4.cell? ⟨B, 4, none⟩ = some (.int .i64 s.r) := box_val HB4.out 4 rfl; have cL : u4.cell? ⟨B, 5, none⟩ = some (.slice s.L.p s.L.n s.L.c) := box_val HB4.out 5 rfl; have cc : u4.cell? ⟨B, 6, none⟩ = some (.int .i64 s.c) := box_val HB4.out 6 rfl; have cV : u4.cell? ⟨B, 7, none⟩ = some (.slice s.V.p s.V.n s.V.c) := box_val HB4.out 7 rfl; have cN : u4.cell? ⟨B, 8, none⟩ = some (.slice s.N.p s.N.n s.N.c) := box_val HB4.out 8 rfl; have cM : u4.cell? ⟨B, 9, none⟩ = some (.slice s.M.p s.M.n s.M.c) := box_val HB4.out 9 rfl; have a0 : u4.cell? ⟨b11, 0, none⟩ = some (.int .u8 x.1) := call_val HCL4.out 0 rfl; have a1 : u4.cell? ⟨b11, 1, none⟩ = some (.int .u16 x.2.1) := call_val HCL4.out 1 rfl; have a2 : u4.cell? ⟨b11, 2, none⟩ = some (.int .u8 x.2.2.1) := call_val HCL4.out 2 rfl; have a3 : u4.cell? ⟨b11, 3, none⟩ = some (.int .u16 x.2.2.2.1) := call_val HCL4.out 3 rfl; have a4 : u4.cell? ⟨b11, 4, none⟩ = some (.int .u8 x.2.2.2.2) := call_val HCL4.out 4 rfl))
        have HS4 := Lib.hid ((HS.out.ext HBX.out.2).ext HBY.out.2)
        have HW4 := Lib.hid HBY.out.1
        have HK4 := Lib.hid (HK3.out.ext HBY.out.2)
        have H14 := Lib.hid (H13.out.ext HBY.out.2)
        have hx4 : Ext w u4 := Ext.trans hx (Ext.trans HBX.out.2 HBY.out.2)
        have hw4 : bw < u4.heap.size := HW4.out.lt
        have hB4 : B < u4.heap.size := HB4.out.lt
        clear HB3 HCL3 HK3 H13 HZHBX HZHBY HBX HBY HK H1 HB HS HCL hx
        refine (rbegin_any s u4 (by rw [(HK4.out.now hx4).i]; have h := HI.out; simp [Lit.wf, IntKind.min, IntKind.max, IntKind.signed, IntKind.bits]; omega) (by rw [(HK4.out.now hx4).t]; exact HTT.out.1) (by rw [(HK4.out.now hx4).t]; exact HTT.out.2)).mono ?_
        rintro e w5 ⟨⟨s2, b2, rfl, hb2, hb3, hs2⟩, hx5⟩
        have HB5 := Lib.hid (HB4.out.ext hx5)
        have HS5 := Lib.hid (HS4.out.ext hx5)
        have HQ5 := Lib.hid (HQ4.out.ext hx5)
        have HW5 := Lib.hid (HW4.out.ext hx5)
        have H15 := Lib.hid (H14.out.ext hx5)
        have H25 : Hid (SeatK w (fun k => k = B ∨ k = bw) w5 s2 d1) := Lib.hid (by rw [hd1]; exact SeatK.begin_ HK4.out hx5 hb3 (fun h => h.elim (fun e => by omega) (fun e => by omega)) hs2)
        have hx5w : Ext w w5 := Ext.trans hx4 hx5
        clear ci cP ct cv cr cL cc cV cN cM a0 a1 a2 a3 a4 hx5
        unfold seatA
        have HX6 : Hid (Ext w (w5.setRow bw #[.int .i64 s2.i, .slice s2.P.p s2.P.n s2.P.c, .int .i64 s2.t, .int .i64 s2.v, .int .i64 s2.r, .slice s2.L.p s2.L.n s2.L.c, .int .i64 s2.c, .slice s2.V.p s2.V.n s2.V.c, .slice s2.N.p s2.N.n s2.N.c, .slice s2.M.p s2.M.n s2.M.c])) := Lib.hid (ext_setRow hx5w (by omega) _)
        have HB6 : Hid (BoxAt (w5.setRow bw #[.int .i64 s2.i, .slice s2.P.p s2.P.n s2.P.c, .int .i64 s2.t, .int .i64 s2.v, .int .i64 s2.r, .slice s2.L.p s2.L.n s2.L.c, .int .i64 s2.c, .slice s2.V.p s2.V.n s2.V.c, .slice s2.N.p s2.N.n s2.N.c, .slice s2.M.p s2.M.n s2.M.c]) B s) := Lib.hid (HB5.out.setRow_ne (by omega) _)
        have HS6 : Hid (BoxAt (w5.setRow bw #[.int .i64 s2.i, .slice s2.P.p s2.P.n s2.P.c, .int .i64 s2.t, .int .i64 s2.v, .int .i64 s2.r, .slice s2.L.p s2.L.n s2.L.c, .int .i64 s2.c, .slice s2.V.p s2.V.n s2.V.c, .slice s2.N.p s2.N.n s2.N.c, .slice s2.M.p s2.M.n s2.M.c]) w.heap.size s0) := Lib.hid (HS5.out.setRow_ne (by omega) _)
        have HQ6 : Hid (BoxAt (w5.setRow bw #[.int .i64 s2.i, .slice s2.P.p s2.P.n s2.P.c, .int .i64 s2.t, .int .i64 s2.v, .int .i64 s2.r, .slice s2.L.p s2.L.n s2.L.c, .int .i64 s2.c, .slice s2.V.p s2.V.n s2.V.c, .slice s2.N.p s2.N.n s2.N.c, .slice s2.M.p s2.M.n s2.M.c]) bq s1) := Lib.hid (HQ5.out.setRow_ne (by omega) _)
        have HW6 : Hid (BoxAt (w5.setRow bw #[.int .i64 s2.i, .slice s2.P.p s2.P.n s2.P.c, .int .i64 s2.t, .int .i64 s2.v, .int .i64 s2.r, .slice s2.L.p s2.L.n s2.L.c, .int .i64 s2.c, .slice s2.V.p s2.V.n s2.V.c, .slice s2.N.p s2.N.n s2.N.c, .slice s2.M.p s2.M.n s2.M.c]) bw s2) := Lib.hid (HW5.out.set)
        have H16 : Hid (SeatK w (fun k => k = B ∨ k = bw) (w5.setRow bw #[.int .i64 s2.i, .slice s2.P.p s2.P.n s2.P.c, .int .i64 s2.t, .int .i64 s2.v, .int .i64 s2.r, .slice s2.L.p s2.L.n s2.L.c, .int .i64 s2.c, .slice s2.V.p s2.V.n s2.V.c, .slice s2.N.p s2.N.n s2.N.c, .slice s2.M.p s2.M.n s2.M.c]) s1 d1) := Lib.hid (H15.out.setRow (.inr rfl) _)
        have H26 : Hid (SeatK w (fun k => k = B ∨ k = bw) (w5.setRow bw #[.int .i64 s2.i, .slice s2.P.p s2.P.n s2.P.c, .int .i64 s2.t, .int .i64 s2.v, .int .i64 s2.r, .slice s2.L.p s2.L.n s2.L.c, .int .i64 s2.c, .slice s2.V.p s2.V.n s2.V.c, .slice s2.N.p s2.N.n s2.N.c, .slice s2.M.p s2.M.n s2.M.c]) s2 d1) := Lib.hid (H25.out.setRow (.inr rfl) _)
        clear hs2 hb2 hb3
        go_wp2_with ((with_reducible refine wpList_store_row (o := ⟨none, .store 25 (.tmp 14) (.tmp 58), _, _, _, _⟩) ?_ 25 (.tmp 14) (.tmp 58) ?_ bw #[.int .i64 s2.i, .slice s2.P.p s2.P.n s2.P.c, .int .i64 s2.t, .int .i64 s2.v, .int .i64 s2.r, .slice s2.L.p s2.L.n s2.L.c, .int .i64 s2.c, .slice s2.V.p s2.V.n s2.V.c, .slice s2.N.p s2.N.n s2.N.c, .slice s2.M.p s2.M.n s2.M.c] ?_ ?_ 25 #[.int .i64 s.i, .slice s.P.p s.P.n s.P.c, .int .i64 s.t, .int .i64 s.v, .int .i64 s.r, .slice s.L.p s.L.n s.L.c, .int .i64 s.c, .slice s.V.p s.V.n s.V.c, .slice s.N.p s.N.n s.N.c, .slice s.M.p s.M.n s.M.c] ?_ ?_ ?_ ?_ ?_); (exact rfl); (exact rfl); (exact rfl); (exact rfl); (exact HW5.out); (exact info_seat); (exact rfl); (exact seat_one s2); generalize w5.setRow bw #[.int .i64 s2.i, .slice s2.P.p s2.P.n s2.P.c, .int .i64 s2.t, .int .i64 s2.v, .int .i64 s2.r, .slice s2.L.p s2.L.n s2.L.c, .int .i64 s2.c, .slice s2.V.p s2.V.n s2.V.c, .slice s2.N.p s2.N.n s2.N.c, .slice s2.M.p s2.M.n s2.M.c] = u6 at HX6 HB6 HS6 HQ6 HW6 H16 H26 ⊢; have vi : u6.cell? ⟨bq, 0, none⟩ = some (.int .i64 s1.i) := box_val HQ6.out 0 rfl; have vP : u6.cell? ⟨bq, 1, none⟩ = some (.slice s1.P.p s1.P.n s1.P.c) := box_val HQ6.out 1 rfl; have vt : u6.cell? ⟨bq, 2, none⟩ = some (.int .i64 s1.t) := box_val HQ6.out 2 rfl; have vv : u6.cell? ⟨bq, 3, none⟩ = some (.int .i64 s1.v) := box_val HQ6.out 3 rfl; have vr : u6.cell? ⟨bq, 4, none⟩ = some (.int .i64 s1.r) := box_val HQ6.out 4 rfl; have vL : u6.cell? ⟨bq, 5, none⟩ = some (.slice s1.L.p s1.L.n s1.L.c) := box_val HQ6.out 5 rfl; have vc : u6.cell? ⟨bq, 6, none⟩ = some (.int .i64 s1.c) := box_val HQ6.out 6 rfl; have vV : u6.cell? ⟨bq, 7, none⟩ = some (.slice s1.V.p s1.V.n s1.V.c) := box_val HQ6.out 7 rfl; have vN : u6.cell? ⟨bq, 8, none⟩ = some (.slice s1.N.p s1.N.n s1.N.c) := box_val HQ6.out 8 rfl; have vM : u6.cell? ⟨bq, 9, none⟩ = some (.slice s1.M.p s1.M.n s1.M.c) := box_val HQ6.out 9 rfl; have yi : u6.cell? ⟨bw, 0, none⟩ = some (.int .i64 s2.i) := box_val HW6.out 0 rfl; have yP : u6.cell? ⟨bw, 1, none⟩ = some (.slice s2.P.p s2.P.n s2.P.c) := box_val HW6.out 1 rfl; have yt : u6.cell? ⟨bw, 2, none⟩ = some (.int .i64 s2.t) := box_val HW6.out 2 rfl; have yv : u6.cell? ⟨bw, 3, none⟩ = some (.int .i64 s2.v) := box_val HW6.out 3 rfl; have yr : u6.cell? ⟨bw, 4, none⟩ = some (.int .i64 s2.r) := box_val HW6.out 4 rfl; have yL : u6.cell? ⟨bw, 5, none⟩ = some (.slice s2.L.p s2.L.n s2.L.c) := box_val HW6.out 5 rfl; have yc : u6.cell? ⟨bw, 6, none⟩ = some (.int .i64 s2.c) := box_val HW6.out 6 rfl; have yV : u6.cell? ⟨bw, 7, none⟩ = some (.slice s2.V.p s2.V.n s2.V.c) := box_val HW6.out 7 rfl; have yN : u6.cell? ⟨bw, 8, none⟩ = some (.slice s2.N.p s2.N.n s2.N.c) := box_val HW6.out 8 rfl; have yM : u6.cell? ⟨bw, 9, none⟩ = some (.slice s2.M.p s2.M.n s2.M.c) := box_val HW6.out 9 rfl)
        refine (rsame_any s1 s2 d1 d1 _ (H16.out.now HX6.out) (H26.out.now HX6.out)).mono ?_
        rintro e w6 ⟨bb, rfl, hbb, hx6⟩
        obtain rfl : bb = true := hbb.2 rfl
        have HB6 := Lib.hid (HB6.out.ext hx6)
        have HS6 := Lib.hid (HS6.out.ext hx6)
        have HQ6 := Lib.hid (HQ6.out.ext hx6)
        have H16 : Hid (SeatK w (fun k => k = B) w6 s1 d1) := Lib.hid ((H16.out.ext hx6).wide (fun k _ h => .inl h))
        have hx7 : Ext w w6 := Ext.trans HX6.out hx6
        have HX8 : Hid (Ext w (w6.setRow B #[.int .i64 s1.i, .slice s1.P.p s1.P.n s1.P.c, .int .i64 s1.t, .int .i64 s1.v, .int .i64 s1.r, .slice s1.L.p s1.L.n s1.L.c, .int .i64 s1.c, .slice s1.V.p s1.V.n s1.V.c, .slice s1.N.p s1.N.n s1.N.c, .slice s1.M.p s1.M.n s1.M.c])) := Lib.hid (ext_setRow hx7 (Nat.le_of_lt hBB) _)
        have HB8 : Hid (BoxAt (w6.setRow B #[.int .i64 s1.i, .slice s1.P.p s1.P.n s1.P.c, .int .i64 s1.t, .int .i64 s1.v, .int .i64 s1.r, .slice s1.L.p s1.L.n s1.L.c, .int .i64 s1.c, .slice s1.V.p s1.V.n s1.V.c, .slice s1.N.p s1.N.n s1.N.c, .slice s1.M.p s1.M.n s1.M.c]) B s1) := Lib.hid (HB6.out.set)
        have HS8 : Hid (BoxAt (w6.setRow B #[.int .i64 s1.i, .slice s1.P.p s1.P.n s1.P.c, .int .i64 s1.t, .int .i64 s1.v, .int .i64 s1.r, .slice s1.L.p s1.L.n s1.L.c, .int .i64 s1.c, .slice s1.V.p s1.V.n s1.V.c, .slice s1.N.p s1.N.n s1.N.c, .slice s1.M.p s1.M.n s1.M.c]) w.heap.size s0) := Lib.hid (HS6.out.setRow_ne (Nat.ne_of_lt hBB) _)
        have H18 : Hid (SeatK w (fun k => k = B) (w6.setRow B #[.int .i64 s1.i, .slice s1.P.p s1.P.n s1.P.c, .int .i64 s1.t, .int .i64 s1.v, .int .i64 s1.r, .slice s1.L.p s1.L.n s1.L.c, .int .i64 s1.c, .slice s1.V.p s1.V.n s1.V.c, .slice s1.N.p s1.N.n s1.N.c, .slice s1.M.p s1.M.n s1.M.c]) s1 d1) := Lib.hid (H16.out.setRow rfl _)
        clear hbb hx6
        clear vi vP vt vv vr vL vc vV vN vM yi yP yt yv yr yL yc yV yN yM
        have zi : w6.cell? ⟨bq, 0, none⟩ = some (.int .i64 s1.i) := box_val HQ6.out 0 rfl
        have zP : w6.cell? ⟨bq, 1, none⟩ = some (.slice s1.P.p s1.P.n s1.P.c) := box_val HQ6.out 1 rfl
        have zt : w6.cell? ⟨bq, 2, none⟩ = some (.int .i64 s1.t) := box_val HQ6.out 2 rfl
        have zv : w6.cell? ⟨bq, 3, none⟩ = some (.int .i64 s1.v) := box_val HQ6.out 3 rfl
        have zr : w6.cell? ⟨bq, 4, none⟩ = some (.int .i64 s1.r) := box_val HQ6.out 4 rfl
        have zL : w6.cell? ⟨bq, 5, none⟩ = some (.slice s1.L.p s1.L.n s1.L.c) := box_val HQ6.out 5 rfl
        have zc : w6.cell? ⟨bq, 6, none⟩ = some (.int .i64 s1.c) := box_val HQ6.out 6 rfl
        have zV : w6.cell? ⟨bq, 7, none⟩ = some (.slice s1.V.p s1.V.n s1.V.c) := box_val HQ6.out 7 rfl
        have zN : w6.cell? ⟨bq, 8, none⟩ = some (.slice s1.N.p s1.N.n s1.N.c) := box_val HQ6.out 8 rfl
        have zM : w6.cell? ⟨bq, 9, none⟩ = some (.slice s1.M.p s1.M.n s1.M.c) := box_val HQ6.out 9 rfl
        go_wp2_with ((with_reducible refine wpList_store_row (o := ⟨none, .store 25 (.tmp 9) (.tmp 103), _, _, _, _⟩) ?_ 25 (.tmp 9) (.tmp 103) ?_ B #[.int .i64 s1.i, .slice s1.P.p s1.P.n s1.P.c, .int .i64 s1.t, .int .i64 s1.v, .int .i64 s1.r, .slice s1.L.p s1.L.n s1.L.c, .int .i64 s1.c, .slice s1.V.p s1.V.n s1.V.c, .slice s1.N.p s1.N.n s1.N.c, .slice s1.M.p s1.M.n s1.M.c] ?_ ?_ 25 #[.int .i64 s.i, .slice s.P.p s.P.n s.P.c, .int .i64 s.t, .int .i64 s.v, .int .i64 s.r, .slice s.L.p s.L.n s.L.c, .int .i64 s.c, .slice s.V.p s.V.n s.V.c, .slice s.N.p s.N.n s.N.c, .slice s.M.p s.M.n s.M.c] ?_ ?_ ?_ ?_ ?_); (exact rfl); (exact rfl); (exact rfl); (exact rfl); (exact HB6.out); (exact info_seat); (exact rfl); (exact seat_one s1); generalize w6.setRow B #[.int .i64 s1.i, .slice s1.P.p s1.P.n s1.P.c, .int .i64 s1.t, .int .i64 s1.v, .int .i64 s1.r, .slice s1.L.p s1.L.n s1.L.c, .int .i64 s1.c, .slice s1.V.p s1.V.n s1.V.c, .slice s1.N.p s1.N.n s1.N.c, .slice s1.M.p s1.M.n s1.M.c] = u8 at HX8 HB8 HS8 H18 ⊢)
        go_roundw
        case rel => exact ⟨k + 1, s1, d1, by go_num, by omega, HX8.out, HB8, H18, HS8, Lib.hid ⟨by rw [HST.out.i]; exact HD.out.1, by rw [HST.out.c]; exact HD.out.2.1, by have h1 := HST.out.le; have h2 := HD.out.2.2.1; omega, by have h1 := HST.out.up; have h2 := HD.out.2.2.2; omega⟩⟩
        case measure => simp [intOf]; omega
      by_cases hk1 : x.1 % 4 = 1
      · obtain ⟨hup, hstay, hb1⟩ := HEQ1.out hk1
        subst hb1
        have HUP := Lib.hid hup
        have HSTAY := Lib.hid hstay
        clear hup hstay
        have hdt : s.t = d.t := (HK.out.now hx).t
        have HDT := Lib.hid hdt
        by_cases htt : s.t < x.2.1
        · have hd1 := HUP.out (by rw [← HDT.out]; exact htt)
          clear hdt
          go_wp2_with (first | ((with_reducible refine wpList_store_row (o := ⟨none, .store 25 (.tmp 12) (.tmp 50), _, _, _, _⟩) ?_ 25 (.tmp 12) (.tmp 50) ?_ w3.heap.size #[.int .i64 s1.i, .slice s1.P.p s1.P.n s1.P.c, .int .i64 s1.t, .int .i64 s1.v, .int .i64 s1.r, .slice s1.L.p s1.L.n s1.L.c, .int .i64 s1.c, .slice s1.V.p s1.V.n s1.V.c, .slice s1.N.p s1.N.n s1.N.c, .slice s1.M.p s1.M.n s1.M.c] ?_ ?_ 25 #[.int .i64 0, .slice none 0 0, .int .i64 0, .int .i64 0, .int .i64 0, .slice none 0 0, .int .i64 0, .slice none 0 0, .slice none 0 0, .slice none 0 0] ?_ ?_ ?_ ?_ ?_); (exact rfl); (exact rfl); (exact rfl); (exact rfl); (exact HZHBX.out); (exact info_seat); (exact rfl); (exact seat_one s1); generalize (w3.alloc (.cells #[.int .i64 0, .slice none 0 0, .int .i64 0, .int .i64 0, .int .i64 0, .slice none 0 0, .int .i64 0, .slice none 0 0, .slice none 0 0, .slice none 0 0] 25)).setRow w3.heap.size #[.int .i64 s1.i, .slice s1.P.p s1.P.n s1.P.c, .int .i64 s1.t, .int .i64 s1.v, .int .i64 s1.r, .slice s1.L.p s1.L.n s1.L.c, .int .i64 s1.c, .slice s1.V.p s1.V.n s1.V.c, .slice s1.N.p s1.N.n s1.N.c, .slice s1.M.p s1.M.n s1.M.c] = u3 at HBX ⊢; generalize w3.heap.size = bq at HBX ⊢; have HB3 := Lib.hid (HB.out.ext HBX.out.2); have HCL3 := Lib.hid (HCL.out.ext HBX.out.2); have ci : u3.cell? ⟨B, 0, none⟩ = some (.int .i64 s.i) := box_val HB3.out 0 rfl; have cP : u3.cell? ⟨B, 1, none⟩ = some (.slice s.P.p s.P.n s.P.c) := box_val HB3.out 1 rfl; have ct : u3.cell? ⟨B, 2, none⟩ = some (.int .i64 s.t) := box_val HB3.out 2 rfl; have cv : u3.cell? ⟨B, 3, none⟩ = some (.int .i64 s.v) := box_val HB3.out 3 rfl; have cr : u3.cell? ⟨B, 4, none⟩ = some (.int .i64 s.r) := box_val HB3.out 4 rfl; have cL : u3.cell? ⟨B, 5, none⟩ = some (.slice s.L.p s.L.n s.L.c) := box_val HB3.out 5 rfl; have cc : u3.cell? ⟨B, 6, none⟩ = some (.int .i64 s.c) := box_val HB3.out 6 rfl; have cV : u3.cell? ⟨B, 7, none⟩ = some (.slice s.V.p s.V.n s.V.c) := box_val HB3.out 7 rfl; have cN : u3.cell? ⟨B, 8, none⟩ = some (.slice s.N.p s.N.n s.N.c) := box_val HB3.out 8 rfl; have cM : u3.cell? ⟨B, 9, none⟩ = some (.slice s.M.p s.M.n s.M.c) := box_val HB3.out 9 rfl; have HBY : Hid (BoxAt ((u3.alloc (.cells #[.int .i64 0, .slice none 0 0, .int .i64 0, .int .i64 0, .int .i64 0, .slice none 0 0, .int .i64 0, .slice none 0 0, .slice none 0 0, .slice none 0 0] 25)).setRow u3.heap.size #[.int .i64 s.i, .slice s.P.p s.P.n s.P.c, .int .i64 s.t, .int .i64 s.v, .int .i64 s.r, .slice s.L.p s.L.n s.L.c, .int .i64 s.c, .slice s.V.p s.V.n s.V.c, .slice s.N.p s.N.n s.N.c, .slice s.M.p s.M.n s.M.c]) u3.heap.size s ∧ Ext u3 ((u3.alloc (.cells #[.int .i64 0, .slice none 0 0, .int .i64 0, .int .i64 0, .int .i64 0, .slice none 0 0, .int .i64 0, .slice none 0 0, .slice none 0 0, .slice none 0 0] 25)).setRow u3.heap.size #[.int .i64 s.i, .slice s.P.p s.P.n s.P.c, .int .i64 s.t, .int .i64 s.v, .int .i64 s.r, .slice s.L.p s.L.n s.L.c, .int .i64 s.c, .slice s.V.p s.V.n s.V.c, .slice s.N.p s.N.n s.N.c, .slice s.M.p s.M.n s.M.c])) := Lib.hid (box_new u3 s); have HZHBY := Lib.hid (box_zero u3); have HK3 : Hid (SeatK w (fun k => k = B ∨ k = u3.heap.size) u3 s d) := Lib.hid (((HK.out.ext HBX.out.2)).wide (fun k hk h => h.elim id (fun e => absurd hk (by rw [e]; exact Nat.lt_irrefl _)))); have H13 : Hid (SeatK w (fun k => k = B ∨ k = u3.heap.size) u3 s1 d1) := Lib.hid (((H1.out.ext HBX.out.2)).wide (fun k hk h => h.elim id (fun e => absurd hk (by rw [e]; exact Nat.lt_irrefl _)))); have hbq : bq < u3.heap.size := HBX.out.1.lt; have hB3 : B < u3.heap.size := HB3.out.lt; have hC3 : b11 < u3.heap.size := HCL3.out.lt) | ((with_reducible refine wpList_store_row (o := ⟨none, .store 25 (.tmp 14) (.tmp 52), _, _, _, _⟩) ?_ 25 (.tmp 14) (.tmp 52) ?_ u3.heap.size #[.int .i64 s.i, .slice s.P.p s.P.n s.P.c, .int .i64 s.t, .int .i64 s.v, .int .i64 s.r, .slice s.L.p s.L.n s.L.c, .int .i64 s.c, .slice s.V.p s.V.n s.V.c, .slice s.N.p s.N.n s.N.c, .slice s.M.p s.M.n s.M.c] ?_ ?_ 25 #[.int .i64 0, .slice none 0 0, .int .i64 0, .int .i64 0, .int .i64 0, .slice none 0 0, .int .i64 0, .slice none 0 0, .slice none 0 0, .slice none 0 0] ?_ ?_ ?_ ?_ ?_); (exact rfl); (exact rfl); (exact rfl); (exact rfl); (exact HZHBY.out); (exact info_seat); (exact rfl); (exact seat_one s); generalize (u3.alloc (.cells #[.int .i64 0, .slice none 0 0, .int .i64 0, .int .i64 0, .int .i64 0, .slice none 0 0, .int .i64 0, .slice none 0 0, .slice none 0 0, .slice none 0 0] 25)).setRow u3.heap.size #[.int .i64 s.i, .slice s.P.p s.P.n s.P.c, .int .i64 s.t, .int .i64 s.v, .int .i64 s.r, .slice s.L.p s.L.n s.L.c, .int .i64 s.c, .slice s.V.p s.V.n s.V.c, .slice s.N.p s.N.n s.N.c, .slice s.M.p s.M.n s.M.c] = u4 at HBY ⊢; generalize u3.heap.size = bw at HBY HK3 H13 hbq hB3 hC3 ⊢; clear ci cP ct cv cr cL cc cV cN cM; have HB4 := Lib.hid (HB3.out.ext HBY.out.2); have HCL4 := Lib.hid (HCL3.out.ext HBY.out.2); have HQ4 := Lib.hid (HBX.out.1.ext HBY.out.2); have ci : u4.cell? ⟨B, 0, none⟩ = some (.int .i64 s.i) := box_val HB4.out 0 rfl; have cP : u4.cell? ⟨B, 1, none⟩ = some (.slice s.P.p s.P.n s.P.c) := box_val HB4.out 1 rfl; have ct : u4.cell? ⟨B, 2, none⟩ = some (.int .i64 s.t) := box_val HB4.out 2 rfl; have cv : u4.cell? ⟨B, 3, none⟩ = some (.int .i64 s.v) := box_val HB4.out 3 rfl; have cr : u4.cell? ⟨B, 4, none⟩ = some (.int .i64 s.r) := box_val HB4.out 4 rfl; have cL : u4.cell? ⟨B, 5, none⟩ = some (.slice s.L.p s.L.n s.L.c) := box_val HB4.out 5 rfl; have cc : u4.cell? ⟨B, 6, none⟩ = some (.int .i64 s.c) := box_val HB4.out 6 rfl; have cV : u4.cell? ⟨B, 7, none⟩ = some (.slice s.V.p s.V.n s.V.c) := box_val HB4.out 7 rfl; have cN : u4.cell? ⟨B, 8, none⟩ = some (.slice s.N.p s.N.n s.N.c) := box_val HB4.out 8 rfl; have cM : u4.cell? ⟨B, 9, none⟩ = some (.slice s.M.p s.M.n s.M.c) := box_val HB4.out 9 rfl; have a0 : u4.cell? ⟨b11, 0, none⟩ = some (.int .u8 x.1) := call_val HCL4.out 0 rfl; have a1 : u4.cell? ⟨b11, 1, none⟩ = some (.int .u16 x.2.1) := call_val HCL4.out 1 rfl; have a2 : u4.cell? ⟨b11, 2, none⟩ = some (.int .u8 x.2.2.1) := call_val HCL4.out 2 rfl; have a3 : u4.cell? ⟨b11, 3, none⟩ = some (.int .u16 x.2.2.2.1) := call_val HCL4.out 3 rfl; have a4 : u4.cell? ⟨b11, 4, none⟩ = some (.int .u8 x.2.2.2.2) := call_val HCL4.out 4 rfl))
          have HS4 := Lib.hid ((HS.out.ext HBX.out.2).ext HBY.out.2)
          have HW4 := Lib.hid HBY.out.1
          have HK4 := Lib.hid (HK3.out.ext HBY.out.2)
          have H14 := Lib.hid (H13.out.ext HBY.out.2)
          have hx4 : Ext w u4 := Ext.trans hx (Ext.trans HBX.out.2 HBY.out.2)
          have hw4 : bw < u4.heap.size := HW4.out.lt
          have hB4 : B < u4.heap.size := HB4.out.lt
          clear HB3 HCL3 HK3 H13 HZHBX HZHBY HBX HBY HK H1 HB HS HCL hx
          refine (rdown_any s u4 x.2.1).mono ?_
          rintro e w5 ⟨⟨s2, rfl, hs2⟩, hx5⟩
          have HB5 := Lib.hid (HB4.out.ext hx5)
          have HS5 := Lib.hid (HS4.out.ext hx5)
          have HQ5 := Lib.hid (HQ4.out.ext hx5)
          have HW5 := Lib.hid (HW4.out.ext hx5)
          have H15 := Lib.hid (H14.out.ext hx5)
          have H25 : Hid (SeatK w (fun k => k = B ∨ k = bw) w5 s2 d1) := Lib.hid (by rw [hd1]; exact SeatK.map HK4.out hx5 hs2)
          have hx5w : Ext w w5 := Ext.trans hx4 hx5
          clear ci cP ct cv cr cL cc cV cN cM a0 a1 a2 a3 a4 hx5
          unfold seatA
          have HX6 : Hid (Ext w (w5.setRow bw #[.int .i64 s2.i, .slice s2.P.p s2.P.n s2.P.c, .int .i64 s2.t, .int .i64 s2.v, .int .i64 s2.r, .slice s2.L.p s2.L.n s2.L.c, .int .i64 s2.c, .slice s2.V.p s2.V.n s2.V.c, .slice s2.N.p s2.N.n s2.N.c, .slice s2.M.p s2.M.n s2.M.c])) := Lib.hid (ext_setRow hx5w (by omega) _)
          have HB6 : Hid (BoxAt (w5.setRow bw #[.int .i64 s2.i, .slice s2.P.p s2.P.n s2.P.c, .int .i64 s2.t, .int .i64 s2.v, .int .i64 s2.r, .slice s2.L.p s2.L.n s2.L.c, .int .i64 s2.c, .slice s2.V.p s2.V.n s2.V.c, .slice s2.N.p s2.N.n s2.N.c, .slice s2.M.p s2.M.n s2.M.c]) B s) := Lib.hid (HB5.out.setRow_ne (by omega) _)
          have HS6 : Hid (BoxAt (w5.setRow bw #[.int .i64 s2.i, .slice s2.P.p s2.P.n s2.P.c, .int .i64 s2.t, .int .i64 s2.v, .int .i64 s2.r, .slice s2.L.p s2.L.n s2.L.c, .int .i64 s2.c, .slice s2.V.p s2.V.n s2.V.c, .slice s2.N.p s2.N.n s2.N.c, .slice s2.M.p s2.M.n s2.M.c]) w.heap.size s0) := Lib.hid (HS5.out.setRow_ne (by omega) _)
          have HQ6 : Hid (BoxAt (w5.setRow bw #[.int .i64 s2.i, .slice s2.P.p s2.P.n s2.P.c, .int .i64 s2.t, .int .i64 s2.v, .int .i64 s2.r, .slice s2.L.p s2.L.n s2.L.c, .int .i64 s2.c, .slice s2.V.p s2.V.n s2.V.c, .slice s2.N.p s2.N.n s2.N.c, .slice s2.M.p s2.M.n s2.M.c]) bq s1) := Lib.hid (HQ5.out.setRow_ne (by omega) _)
          have HW6 : Hid (BoxAt (w5.setRow bw #[.int .i64 s2.i, .slice s2.P.p s2.P.n s2.P.c, .int .i64 s2.t, .int .i64 s2.v, .int .i64 s2.r, .slice s2.L.p s2.L.n s2.L.c, .int .i64 s2.c, .slice s2.V.p s2.V.n s2.V.c, .slice s2.N.p s2.N.n s2.N.c, .slice s2.M.p s2.M.n s2.M.c]) bw s2) := Lib.hid (HW5.out.set)
          have H16 : Hid (SeatK w (fun k => k = B ∨ k = bw) (w5.setRow bw #[.int .i64 s2.i, .slice s2.P.p s2.P.n s2.P.c, .int .i64 s2.t, .int .i64 s2.v, .int .i64 s2.r, .slice s2.L.p s2.L.n s2.L.c, .int .i64 s2.c, .slice s2.V.p s2.V.n s2.V.c, .slice s2.N.p s2.N.n s2.N.c, .slice s2.M.p s2.M.n s2.M.c]) s1 d1) := Lib.hid (H15.out.setRow (.inr rfl) _)
          have H26 : Hid (SeatK w (fun k => k = B ∨ k = bw) (w5.setRow bw #[.int .i64 s2.i, .slice s2.P.p s2.P.n s2.P.c, .int .i64 s2.t, .int .i64 s2.v, .int .i64 s2.r, .slice s2.L.p s2.L.n s2.L.c, .int .i64 s2.c, .slice s2.V.p s2.V.n s2.V.c, .slice s2.N.p s2.N.n s2.N.c, .slice s2.M.p s2.M.n s2.M.c]) s2 d1) := Lib.hid (H25.out.setRow (.inr rfl) _)
          clear hs2
          go_wp2_with ((with_reducible refine wpList_store_row (o := ⟨none, .store 25 (.tmp 14) (.tmp 92), _, _, _, _⟩) ?_ 25 (.tmp 14) (.tmp 92) ?_ bw #[.int .i64 s2.i, .slice s2.P.p s2.P.n s2.P.c, .int .i64 s2.t, .int .i64 s2.v, .int .i64 s2.r, .slice s2.L.p s2.L.n s2.L.c, .int .i64 s2.c, .slice s2.V.p s2.V.n s2.V.c, .slice s2.N.p s2.N.n s2.N.c, .slice s2.M.p s2.M.n s2.M.c] ?_ ?_ 25 #[.int .i64 s.i, .slice s.P.p s.P.n s.P.c, .int .i64 s.t, .int .i64 s.v, .int .i64 s.r, .slice s.L.p s.L.n s.L.c, .int .i64 s.c, .slice s.V.p s.V.n s.V.c, .slice s.N.p s.N.n s.N.c, .slice s.M.p s.M.n s.M.c] ?_ ?_ ?_ ?_ ?_); (exact rfl); (exact rfl); (exact rfl); (exact rfl); (exact HW5.out); (exact info_seat); (exact rfl); (exact seat_one s2); generalize w5.setRow bw #[.int .i64 s2.i, .slice s2.P.p s2.P.n s2.P.c, .int .i64 s2.t, .int .i64 s2.v, .int .i64 s2.r, .slice s2.L.p s2.L.n s2.L.c, .int .i64 s2.c, .slice s2.V.p s2.V.n s2.V.c, .slice s2.N.p s2.N.n s2.N.c, .slice s2.M.p s2.M.n s2.M.c] = u6 at HX6 HB6 HS6 HQ6 HW6 H16 H26 ⊢; have vi : u6.cell? ⟨bq, 0, none⟩ = some (.int .i64 s1.i) := box_val HQ6.out 0 rfl; have vP : u6.cell? ⟨bq, 1, none⟩ = some (.slice s1.P.p s1.P.n s1.P.c) := box_val HQ6.out 1 rfl; have vt : u6.cell? ⟨bq, 2, none⟩ = some (.int .i64 s1.t) := box_val HQ6.out 2 rfl; have vv : u6.cell? ⟨bq, 3, none⟩ = some (.int .i64 s1.v) := box_val HQ6.out 3 rfl; have vr : u6.cell? ⟨bq, 4, none⟩ = some (.int .i64 s1.r) := box_val HQ6.out 4 rfl; have vL : u6.cell? ⟨bq, 5, none⟩ = some (.slice s1.L.p s1.L.n s1.L.c) := box_val HQ6.out 5 rfl; have vc : u6.cell? ⟨bq, 6, none⟩ = some (.int .i64 s1.c) := box_val HQ6.out 6 rfl; have vV : u6.cell? ⟨bq, 7, none⟩ = some (.slice s1.V.p s1.V.n s1.V.c) := box_val HQ6.out 7 rfl; have vN : u6.cell? ⟨bq, 8, none⟩ = some (.slice s1.N.p s1.N.n s1.N.c) := box_val HQ6.out 8 rfl; have vM : u6.cell? ⟨bq, 9, none⟩ = some (.slice s1.M.p s1.M.n s1.M.c) := box_val HQ6.out 9 rfl; have yi : u6.cell? ⟨bw, 0, none⟩ = some (.int .i64 s2.i) := box_val HW6.out 0 rfl; have yP : u6.cell? ⟨bw, 1, none⟩ = some (.slice s2.P.p s2.P.n s2.P.c) := box_val HW6.out 1 rfl; have yt : u6.cell? ⟨bw, 2, none⟩ = some (.int .i64 s2.t) := box_val HW6.out 2 rfl; have yv : u6.cell? ⟨bw, 3, none⟩ = some (.int .i64 s2.v) := box_val HW6.out 3 rfl; have yr : u6.cell? ⟨bw, 4, none⟩ = some (.int .i64 s2.r) := box_val HW6.out 4 rfl; have yL : u6.cell? ⟨bw, 5, none⟩ = some (.slice s2.L.p s2.L.n s2.L.c) := box_val HW6.out 5 rfl; have yc : u6.cell? ⟨bw, 6, none⟩ = some (.int .i64 s2.c) := box_val HW6.out 6 rfl; have yV : u6.cell? ⟨bw, 7, none⟩ = some (.slice s2.V.p s2.V.n s2.V.c) := box_val HW6.out 7 rfl; have yN : u6.cell? ⟨bw, 8, none⟩ = some (.slice s2.N.p s2.N.n s2.N.c) := box_val HW6.out 8 rfl; have yM : u6.cell? ⟨bw, 9, none⟩ = some (.slice s2.M.p s2.M.n s2.M.c) := box_val HW6.out 9 rfl)
          refine (rsame_any s1 s2 d1 d1 _ (H16.out.now HX6.out) (H26.out.now HX6.out)).mono ?_
          rintro e w6 ⟨bb, rfl, hbb, hx6⟩
          obtain rfl : bb = true := hbb.2 rfl
          have HB6 := Lib.hid (HB6.out.ext hx6)
          have HS6 := Lib.hid (HS6.out.ext hx6)
          have HQ6 := Lib.hid (HQ6.out.ext hx6)
          have H16 : Hid (SeatK w (fun k => k = B) w6 s1 d1) := Lib.hid ((H16.out.ext hx6).wide (fun k _ h => .inl h))
          have hx7 : Ext w w6 := Ext.trans HX6.out hx6
          have HX8 : Hid (Ext w (w6.setRow B #[.int .i64 s1.i, .slice s1.P.p s1.P.n s1.P.c, .int .i64 s1.t, .int .i64 s1.v, .int .i64 s1.r, .slice s1.L.p s1.L.n s1.L.c, .int .i64 s1.c, .slice s1.V.p s1.V.n s1.V.c, .slice s1.N.p s1.N.n s1.N.c, .slice s1.M.p s1.M.n s1.M.c])) := Lib.hid (ext_setRow hx7 (Nat.le_of_lt hBB) _)
          have HB8 : Hid (BoxAt (w6.setRow B #[.int .i64 s1.i, .slice s1.P.p s1.P.n s1.P.c, .int .i64 s1.t, .int .i64 s1.v, .int .i64 s1.r, .slice s1.L.p s1.L.n s1.L.c, .int .i64 s1.c, .slice s1.V.p s1.V.n s1.V.c, .slice s1.N.p s1.N.n s1.N.c, .slice s1.M.p s1.M.n s1.M.c]) B s1) := Lib.hid (HB6.out.set)
          have HS8 : Hid (BoxAt (w6.setRow B #[.int .i64 s1.i, .slice s1.P.p s1.P.n s1.P.c, .int .i64 s1.t, .int .i64 s1.v, .int .i64 s1.r, .slice s1.L.p s1.L.n s1.L.c, .int .i64 s1.c, .slice s1.V.p s1.V.n s1.V.c, .slice s1.N.p s1.N.n s1.N.c, .slice s1.M.p s1.M.n s1.M.c]) w.heap.size s0) := Lib.hid (HS6.out.setRow_ne (Nat.ne_of_lt hBB) _)
          have H18 : Hid (SeatK w (fun k => k = B) (w6.setRow B #[.int .i64 s1.i, .slice s1.P.p s1.P.n s1.P.c, .int .i64 s1.t, .int .i64 s1.v, .int .i64 s1.r, .slice s1.L.p s1.L.n s1.L.c, .int .i64 s1.c, .slice s1.V.p s1.V.n s1.V.c, .slice s1.N.p s1.N.n s1.N.c, .slice s1.M.p s1.M.n s1.M.c]) s1 d1) := Lib.hid (H16.out.setRow rfl _)
          clear hbb hx6
          clear vi vP vt vv vr vL vc vV vN vM yi yP yt yv yr yL yc yV yN yM
          have zi : w6.cell? ⟨bq, 0, none⟩ = some (.int .i64 s1.i) := box_val HQ6.out 0 rfl
          have zP : w6.cell? ⟨bq, 1, none⟩ = some (.slice s1.P.p s1.P.n s1.P.c) := box_val HQ6.out 1 rfl
          have zt : w6.cell? ⟨bq, 2, none⟩ = some (.int .i64 s1.t) := box_val HQ6.out 2 rfl
          have zv : w6.cell? ⟨bq, 3, none⟩ = some (.int .i64 s1.v) := box_val HQ6.out 3 rfl
          have zr : w6.cell? ⟨bq, 4, none⟩ = some (.int .i64 s1.r) := box_val HQ6.out 4 rfl
          have zL : w6.cell? ⟨bq, 5, none⟩ = some (.slice s1.L.p s1.L.n s1.L.c) := box_val HQ6.out 5 rfl
          have zc : w6.cell? ⟨bq, 6, none⟩ = some (.int .i64 s1.c) := box_val HQ6.out 6 rfl
          have zV : w6.cell? ⟨bq, 7, none⟩ = some (.slice s1.V.p s1.V.n s1.V.c) := box_val HQ6.out 7 rfl
          have zN : w6.cell? ⟨bq, 8, none⟩ = some (.slice s1.N.p s1.N.n s1.N.c) := box_val HQ6.out 8 rfl
          have zM : w6.cell? ⟨bq, 9, none⟩ = some (.slice s1.M.p s1.M.n s1.M.c) := box_val HQ6.out 9 rfl
          go_wp2_with ((with_reducible refine wpList_store_row (o := ⟨none, .store 25 (.tmp 9) (.tmp 103), _, _, _, _⟩) ?_ 25 (.tmp 9) (.tmp 103) ?_ B #[.int .i64 s1.i, .slice s1.P.p s1.P.n s1.P.c, .int .i64 s1.t, .int .i64 s1.v, .int .i64 s1.r, .slice s1.L.p s1.L.n s1.L.c, .int .i64 s1.c, .slice s1.V.p s1.V.n s1.V.c, .slice s1.N.p s1.N.n s1.N.c, .slice s1.M.p s1.M.n s1.M.c] ?_ ?_ 25 #[.int .i64 s.i, .slice s.P.p s.P.n s.P.c, .int .i64 s.t, .int .i64 s.v, .int .i64 s.r, .slice s.L.p s.L.n s.L.c, .int .i64 s.c, .slice s.V.p s.V.n s.V.c, .slice s.N.p s.N.n s.N.c, .slice s.M.p s.M.n s.M.c] ?_ ?_ ?_ ?_ ?_); (exact rfl); (exact rfl); (exact rfl); (exact rfl); (exact HB6.out); (exact info_seat); (exact rfl); (exact seat_one s1); generalize w6.setRow B #[.int .i64 s1.i, .slice s1.P.p s1.P.n s1.P.c, .int .i64 s1.t, .int .i64 s1.v, .int .i64 s1.r, .slice s1.L.p s1.L.n s1.L.c, .int .i64 s1.c, .slice s1.V.p s1.V.n s1.V.c, .slice s1.N.p s1.N.n s1.N.c, .slice s1.M.p s1.M.n s1.M.c] = u8 at HX8 HB8 HS8 H18 ⊢)
          go_roundw
          case rel => exact ⟨k + 1, s1, d1, by go_num, by omega, HX8.out, HB8, H18, HS8, Lib.hid ⟨by rw [HST.out.i]; exact HD.out.1, by rw [HST.out.c]; exact HD.out.2.1, by have h1 := HST.out.le; have h2 := HD.out.2.2.1; omega, by have h1 := HST.out.up; have h2 := HD.out.2.2.2; omega⟩⟩
          case measure => simp [intOf]; omega
        · have hd1 := HSTAY.out (by rw [← HDT.out]; exact htt)
          clear hdt
          go_wp2_with (first | ((with_reducible refine wpList_store_row (o := ⟨none, .store 25 (.tmp 12) (.tmp 50), _, _, _, _⟩) ?_ 25 (.tmp 12) (.tmp 50) ?_ w3.heap.size #[.int .i64 s1.i, .slice s1.P.p s1.P.n s1.P.c, .int .i64 s1.t, .int .i64 s1.v, .int .i64 s1.r, .slice s1.L.p s1.L.n s1.L.c, .int .i64 s1.c, .slice s1.V.p s1.V.n s1.V.c, .slice s1.N.p s1.N.n s1.N.c, .slice s1.M.p s1.M.n s1.M.c] ?_ ?_ 25 #[.int .i64 0, .slice none 0 0, .int .i64 0, .int .i64 0, .int .i64 0, .slice none 0 0, .int .i64 0, .slice none 0 0, .slice none 0 0, .slice none 0 0] ?_ ?_ ?_ ?_ ?_); (exact rfl); (exact rfl); (exact rfl); (exact rfl); (exact HZHBX.out); (exact info_seat); (exact rfl); (exact seat_one s1); generalize (w3.alloc (.cells #[.int .i64 0, .slice none 0 0, .int .i64 0, .int .i64 0, .int .i64 0, .slice none 0 0, .int .i64 0, .slice none 0 0, .slice none 0 0, .slice none 0 0] 25)).setRow w3.heap.size #[.int .i64 s1.i, .slice s1.P.p s1.P.n s1.P.c, .int .i64 s1.t, .int .i64 s1.v, .int .i64 s1.r, .slice s1.L.p s1.L.n s1.L.c, .int .i64 s1.c, .slice s1.V.p s1.V.n s1.V.c, .slice s1.N.p s1.N.n s1.N.c, .slice s1.M.p s1.M.n s1.M.c] = u3 at HBX ⊢; generalize w3.heap.size = bq at HBX ⊢; have HB3 := Lib.hid (HB.out.ext HBX.out.2); have HCL3 := Lib.hid (HCL.out.ext HBX.out.2); have ci : u3.cell? ⟨B, 0, none⟩ = some (.int .i64 s.i) := box_val HB3.out 0 rfl; have cP : u3.cell? ⟨B, 1, none⟩ = some (.slice s.P.p s.P.n s.P.c) := box_val HB3.out 1 rfl; have ct : u3.cell? ⟨B, 2, none⟩ = some (.int .i64 s.t) := box_val HB3.out 2 rfl; have cv : u3.cell? ⟨B, 3, none⟩ = some (.int .i64 s.v) := box_val HB3.out 3 rfl; have cr : u3.cell? ⟨B, 4, none⟩ = some (.int .i64 s.r) := box_val HB3.out 4 rfl; have cL : u3.cell? ⟨B, 5, none⟩ = some (.slice s.L.p s.L.n s.L.c) := box_val HB3.out 5 rfl; have cc : u3.cell? ⟨B, 6, none⟩ = some (.int .i64 s.c) := box_val HB3.out 6 rfl; have cV : u3.cell? ⟨B, 7, none⟩ = some (.slice s.V.p s.V.n s.V.c) := box_val HB3.out 7 rfl; have cN : u3.cell? ⟨B, 8, none⟩ = some (.slice s.N.p s.N.n s.N.c) := box_val HB3.out 8 rfl; have cM : u3.cell? ⟨B, 9, none⟩ = some (.slice s.M.p s.M.n s.M.c) := box_val HB3.out 9 rfl; have HBY : Hid (BoxAt ((u3.alloc (.cells #[.int .i64 0, .slice none 0 0, .int .i64 0, .int .i64 0, .int .i64 0, .slice none 0 0, .int .i64 0, .slice none 0 0, .slice none 0 0, .slice none 0 0] 25)).setRow u3.heap.size #[.int .i64 s.i, .slice s.P.p s.P.n s.P.c, .int .i64 s.t, .int .i64 s.v, .int .i64 s.r, .slice s.L.p s.L.n s.L.c, .int .i64 s.c, .slice s.V.p s.V.n s.V.c, .slice s.N.p s.N.n s.N.c, .slice s.M.p s.M.n s.M.c]) u3.heap.size s ∧ Ext u3 ((u3.alloc (.cells #[.int .i64 0, .slice none 0 0, .int .i64 0, .int .i64 0, .int .i64 0, .slice none 0 0, .int .i64 0, .slice none 0 0, .slice none 0 0, .slice none 0 0] 25)).setRow u3.heap.size #[.int .i64 s.i, .slice s.P.p s.P.n s.P.c, .int .i64 s.t, .int .i64 s.v, .int .i64 s.r, .slice s.L.p s.L.n s.L.c, .int .i64 s.c, .slice s.V.p s.V.n s.V.c, .slice s.N.p s.N.n s.N.c, .slice s.M.p s.M.n s.M.c])) := Lib.hid (box_new u3 s); have HZHBY := Lib.hid (box_zero u3); have HK3 : Hid (SeatK w (fun k => k = B ∨ k = u3.heap.size) u3 s d) := Lib.hid (((HK.out.ext HBX.out.2)).wide (fun k hk h => h.elim id (fun e => absurd hk (by rw [e]; exact Nat.lt_irrefl _)))); have H13 : Hid (SeatK w (fun k => k = B ∨ k = u3.heap.size) u3 s1 d1) := Lib.hid (((H1.out.ext HBX.out.2)).wide (fun k hk h => h.elim id (fun e => absurd hk (by rw [e]; exact Nat.lt_irrefl _)))); have hbq : bq < u3.heap.size := HBX.out.1.lt; have hB3 : B < u3.heap.size := HB3.out.lt; have hC3 : b11 < u3.heap.size := HCL3.out.lt) | ((with_reducible refine wpList_store_row (o := ⟨none, .store 25 (.tmp 14) (.tmp 52), _, _, _, _⟩) ?_ 25 (.tmp 14) (.tmp 52) ?_ u3.heap.size #[.int .i64 s.i, .slice s.P.p s.P.n s.P.c, .int .i64 s.t, .int .i64 s.v, .int .i64 s.r, .slice s.L.p s.L.n s.L.c, .int .i64 s.c, .slice s.V.p s.V.n s.V.c, .slice s.N.p s.N.n s.N.c, .slice s.M.p s.M.n s.M.c] ?_ ?_ 25 #[.int .i64 0, .slice none 0 0, .int .i64 0, .int .i64 0, .int .i64 0, .slice none 0 0, .int .i64 0, .slice none 0 0, .slice none 0 0, .slice none 0 0] ?_ ?_ ?_ ?_ ?_); (exact rfl); (exact rfl); (exact rfl); (exact rfl); (exact HZHBY.out); (exact info_seat); (exact rfl); (exact seat_one s); generalize (u3.alloc (.cells #[.int .i64 0, .slice none 0 0, .int .i64 0, .int .i64 0, .int .i64 0, .slice none 0 0, .int .i64 0, .slice none 0 0, .slice none 0 0, .slice none 0 0] 25)).setRow u3.heap.size #[.int .i64 s.i, .slice s.P.p s.P.n s.P.c, .int .i64 s.t, .int .i64 s.v, .int .i64 s.r, .slice s.L.p s.L.n s.L.c, .int .i64 s.c, .slice s.V.p s.V.n s.V.c, .slice s.N.p s.N.n s.N.c, .slice s.M.p s.M.n s.M.c] = u4 at HBY ⊢; generalize u3.heap.size = bw at HBY HK3 H13 hbq hB3 hC3 ⊢; clear ci cP ct cv cr cL cc cV cN cM; have HB4 := Lib.hid (HB3.out.ext HBY.out.2); have HCL4 := Lib.hid (HCL3.out.ext HBY.out.2); have HQ4 := Lib.hid (HBX.out.1.ext HBY.out.2); have ci : u4.cell? ⟨B, 0, none⟩ = some (.int .i64 s.i) := box_val HB4.out 0 rfl; have cP : u4.cell? ⟨B, 1, none⟩ = some (.slice s.P.p s.P.n s.P.c) := box_val HB4.out 1 rfl; have ct : u4.cell? ⟨B, 2, none⟩ = some (.int .i64 s.t) := box_val HB4.out 2 rfl; have cv : u4.cell? ⟨B, 3, none⟩ = some (.int .i64 s.v) := box_val HB4.out 3 rfl; have cr : u4.cell? ⟨B, 4, none⟩ = some (.int .i64 s.r) := box_val HB4.out 4 rfl; have cL : u4.cell? ⟨B, 5, none⟩ = some (.slice s.L.p s.L.n s.L.c) := box_val HB4.out 5 rfl; have cc : u4.cell? ⟨B, 6, none⟩ = some (.int .i64 s.c) := box_val HB4.out 6 rfl; have cV : u4.cell? ⟨B, 7, none⟩ = some (.slice s.V.p s.V.n s.V.c) := box_val HB4.out 7 rfl; have cN : u4.cell? ⟨B, 8, none⟩ = some (.slice s.N.p s.N.n s.N.c) := box_val HB4.out 8 rfl; have cM : u4.cell? ⟨B, 9, none⟩ = some (.slice s.M.p s.M.n s.M.c) := box_val HB4.out 9 rfl; have a0 : u4.cell? ⟨b11, 0, none⟩ = some (.int .u8 x.1) := call_val HCL4.out 0 rfl; have a1 : u4.cell? ⟨b11, 1, none⟩ = some (.int .u16 x.2.1) := call_val HCL4.out 1 rfl; have a2 : u4.cell? ⟨b11, 2, none⟩ = some (.int .u8 x.2.2.1) := call_val HCL4.out 2 rfl; have a3 : u4.cell? ⟨b11, 3, none⟩ = some (.int .u16 x.2.2.2.1) := call_val HCL4.out 3 rfl; have a4 : u4.cell? ⟨b11, 4, none⟩ = some (.int .u8 x.2.2.2.2) := call_val HCL4.out 4 rfl; have vi : u4.cell? ⟨bq, 0, none⟩ = some (.int .i64 s1.i) := box_val HQ4.out 0 rfl; have vP : u4.cell? ⟨bq, 1, none⟩ = some (.slice s1.P.p s1.P.n s1.P.c) := box_val HQ4.out 1 rfl; have vt : u4.cell? ⟨bq, 2, none⟩ = some (.int .i64 s1.t) := box_val HQ4.out 2 rfl; have vv : u4.cell? ⟨bq, 3, none⟩ = some (.int .i64 s1.v) := box_val HQ4.out 3 rfl; have vr : u4.cell? ⟨bq, 4, none⟩ = some (.int .i64 s1.r) := box_val HQ4.out 4 rfl; have vL : u4.cell? ⟨bq, 5, none⟩ = some (.slice s1.L.p s1.L.n s1.L.c) := box_val HQ4.out 5 rfl; have vc : u4.cell? ⟨bq, 6, none⟩ = some (.int .i64 s1.c) := box_val HQ4.out 6 rfl; have vV : u4.cell? ⟨bq, 7, none⟩ = some (.slice s1.V.p s1.V.n s1.V.c) := box_val HQ4.out 7 rfl; have vN : u4.cell? ⟨bq, 8, none⟩ = some (.slice s1.N.p s1.N.n s1.N.c) := box_val HQ4.out 8 rfl; have vM : u4.cell? ⟨bq, 9, none⟩ = some (.slice s1.M.p s1.M.n s1.M.c) := box_val HQ4.out 9 rfl; have yi : u4.cell? ⟨bw, 0, none⟩ = some (.int .i64 s.i) := box_val HBY.out.1 0 rfl; have yP : u4.cell? ⟨bw, 1, none⟩ = some (.slice s.P.p s.P.n s.P.c) := box_val HBY.out.1 1 rfl; have yt : u4.cell? ⟨bw, 2, none⟩ = some (.int .i64 s.t) := box_val HBY.out.1 2 rfl; have yv : u4.cell? ⟨bw, 3, none⟩ = some (.int .i64 s.v) := box_val HBY.out.1 3 rfl; have yr : u4.cell? ⟨bw, 4, none⟩ = some (.int .i64 s.r) := box_val HBY.out.1 4 rfl; have yL : u4.cell? ⟨bw, 5, none⟩ = some (.slice s.L.p s.L.n s.L.c) := box_val HBY.out.1 5 rfl; have yc : u4.cell? ⟨bw, 6, none⟩ = some (.int .i64 s.c) := box_val HBY.out.1 6 rfl; have yV : u4.cell? ⟨bw, 7, none⟩ = some (.slice s.V.p s.V.n s.V.c) := box_val HBY.out.1 7 rfl; have yN : u4.cell? ⟨bw, 8, none⟩ = some (.slice s.N.p s.N.n s.N.c) := box_val HBY.out.1 8 rfl; have yM : u4.cell? ⟨bw, 9, none⟩ = some (.slice s.M.p s.M.n s.M.c) := box_val HBY.out.1 9 rfl))
          have HS4 := Lib.hid ((HS.out.ext HBX.out.2).ext HBY.out.2)
          have HW4 := Lib.hid HBY.out.1
          have HK4 := Lib.hid (HK3.out.ext HBY.out.2)
          have H14 := Lib.hid (H13.out.ext HBY.out.2)
          have hx4 : Ext w u4 := Ext.trans hx (Ext.trans HBX.out.2 HBY.out.2)
          have hw4 : bw < u4.heap.size := HW4.out.lt
          have hB4 : B < u4.heap.size := HB4.out.lt
          clear HB3 HCL3 HK3 H13 HZHBX HZHBY HBX HBY HK H1 HB HS HCL hx
          refine (rsame_any s1 s d1 d1 _ (H14.out.now hx4) (by rw [hd1]; exact HK4.out.now hx4)).mono ?_
          rintro e w6 ⟨bb, rfl, hbb, hx6⟩
          obtain rfl : bb = true := hbb.2 rfl
          have HB6 := Lib.hid (HB4.out.ext hx6)
          have HS6 := Lib.hid (HS4.out.ext hx6)
          have HQ6 := Lib.hid (HQ4.out.ext hx6)
          have H16 : Hid (SeatK w (fun k => k = B) w6 s1 d1) := Lib.hid ((H14.out.ext hx6).wide (fun k _ h => .inl h))
          have hx7 : Ext w w6 := Ext.trans hx4 hx6
          have HX8 : Hid (Ext w (w6.setRow B #[.int .i64 s1.i, .slice s1.P.p s1.P.n s1.P.c, .int .i64 s1.t, .int .i64 s1.v, .int .i64 s1.r, .slice s1.L.p s1.L.n s1.L.c, .int .i64 s1.c, .slice s1.V.p s1.V.n s1.V.c, .slice s1.N.p s1.N.n s1.N.c, .slice s1.M.p s1.M.n s1.M.c])) := Lib.hid (ext_setRow hx7 (Nat.le_of_lt hBB) _)
          have HB8 : Hid (BoxAt (w6.setRow B #[.int .i64 s1.i, .slice s1.P.p s1.P.n s1.P.c, .int .i64 s1.t, .int .i64 s1.v, .int .i64 s1.r, .slice s1.L.p s1.L.n s1.L.c, .int .i64 s1.c, .slice s1.V.p s1.V.n s1.V.c, .slice s1.N.p s1.N.n s1.N.c, .slice s1.M.p s1.M.n s1.M.c]) B s1) := Lib.hid (HB6.out.set)
          have HS8 : Hid (BoxAt (w6.setRow B #[.int .i64 s1.i, .slice s1.P.p s1.P.n s1.P.c, .int .i64 s1.t, .int .i64 s1.v, .int .i64 s1.r, .slice s1.L.p s1.L.n s1.L.c, .int .i64 s1.c, .slice s1.V.p s1.V.n s1.V.c, .slice s1.N.p s1.N.n s1.N.c, .slice s1.M.p s1.M.n s1.M.c]) w.heap.size s0) := Lib.hid (HS6.out.setRow_ne (Nat.ne_of_lt hBB) _)
          have H18 : Hid (SeatK w (fun k => k = B) (w6.setRow B #[.int .i64 s1.i, .slice s1.P.p s1.P.n s1.P.c, .int .i64 s1.t, .int .i64 s1.v, .int .i64 s1.r, .slice s1.L.p s1.L.n s1.L.c, .int .i64 s1.c, .slice s1.V.p s1.V.n s1.V.c, .slice s1.N.p s1.N.n s1.N.c, .slice s1.M.p s1.M.n s1.M.c]) s1 d1) := Lib.hid (H16.out.setRow rfl _)
          clear hbb hx6
          clear vi vP vt vv vr vL vc vV vN vM yi yP yt yv yr yL yc yV yN yM ci cP ct cv cr cL cc cV cN cM a0 a1 a2 a3 a4
          have zi : w6.cell? ⟨bq, 0, none⟩ = some (.int .i64 s1.i) := box_val HQ6.out 0 rfl
          have zP : w6.cell? ⟨bq, 1, none⟩ = some (.slice s1.P.p s1.P.n s1.P.c) := box_val HQ6.out 1 rfl
          have zt : w6.cell? ⟨bq, 2, none⟩ = some (.int .i64 s1.t) := box_val HQ6.out 2 rfl
          have zv : w6.cell? ⟨bq, 3, none⟩ = some (.int .i64 s1.v) := box_val HQ6.out 3 rfl
          have zr : w6.cell? ⟨bq, 4, none⟩ = some (.int .i64 s1.r) := box_val HQ6.out 4 rfl
          have zL : w6.cell? ⟨bq, 5, none⟩ = some (.slice s1.L.p s1.L.n s1.L.c) := box_val HQ6.out 5 rfl
          have zc : w6.cell? ⟨bq, 6, none⟩ = some (.int .i64 s1.c) := box_val HQ6.out 6 rfl
          have zV : w6.cell? ⟨bq, 7, none⟩ = some (.slice s1.V.p s1.V.n s1.V.c) := box_val HQ6.out 7 rfl
          have zN : w6.cell? ⟨bq, 8, none⟩ = some (.slice s1.N.p s1.N.n s1.N.c) := box_val HQ6.out 8 rfl
          have zM : w6.cell? ⟨bq, 9, none⟩ = some (.slice s1.M.p s1.M.n s1.M.c) := box_val HQ6.out 9 rfl
          go_wp2_with ((with_reducible refine wpList_store_row (o := ⟨none, .store 25 (.tmp 9) (.tmp 103), _, _, _, _⟩) ?_ 25 (.tmp 9) (.tmp 103) ?_ B #[.int .i64 s1.i, .slice s1.P.p s1.P.n s1.P.c, .int .i64 s1.t, .int .i64 s1.v, .int .i64 s1.r, .slice s1.L.p s1.L.n s1.L.c, .int .i64 s1.c, .slice s1.V.p s1.V.n s1.V.c, .slice s1.N.p s1.N.n s1.N.c, .slice s1.M.p s1.M.n s1.M.c] ?_ ?_ 25 #[.int .i64 s.i, .slice s.P.p s.P.n s.P.c, .int .i64 s.t, .int .i64 s.v, .int .i64 s.r, .slice s.L.p s.L.n s.L.c, .int .i64 s.c, .slice s.V.p s.V.n s.V.c, .slice s.N.p s.N.n s.N.c, .slice s.M.p s.M.n s.M.c] ?_ ?_ ?_ ?_ ?_); (exact rfl); (exact rfl); (exact rfl); (exact rfl); (exact HB6.out); (exact info_seat); (exact rfl); (exact seat_one s1); generalize w6.setRow B #[.int .i64 s1.i, .slice s1.P.p s1.P.n s1.P.c, .int .i64 s1.t, .int .i64 s1.v, .int .i64 s1.r, .slice s1.L.p s1.L.n s1.L.c, .int .i64 s1.c, .slice s1.V.p s1.V.n s1.V.c, .slice s1.N.p s1.N.n s1.N.c, .slice s1.M.p s1.M.n s1.M.c] = u8 at HX8 HB8 HS8 H18 ⊢)
          go_roundw
          case rel => exact ⟨k + 1, s1, d1, by go_num, by omega, HX8.out, HB8, H18, HS8, Lib.hid ⟨by rw [HST.out.i]; exact HD.out.1, by rw [HST.out.c]; exact HD.out.2.1, by have h1 := HST.out.le; have h2 := HD.out.2.2.1; omega, by have h1 := HST.out.up; have h2 := HD.out.2.2.2; omega⟩⟩
          case measure => simp [intOf]; omega
      obtain ⟨hd1, hb1⟩ := HEQ2.out hk0 hk1
      have HDD := Lib.hid hd1
      have HBB := Lib.hid hb1
      clear hd1 hb1
      have hk2 : (1 : Int) < x.1 % 4 := by omega
      go_wp2_with (first | ((with_reducible refine wpList_store_row (o := ⟨none, .store 25 (.tmp 12) (.tmp 50), _, _, _, _⟩) ?_ 25 (.tmp 12) (.tmp 50) ?_ w3.heap.size #[.int .i64 s1.i, .slice s1.P.p s1.P.n s1.P.c, .int .i64 s1.t, .int .i64 s1.v, .int .i64 s1.r, .slice s1.L.p s1.L.n s1.L.c, .int .i64 s1.c, .slice s1.V.p s1.V.n s1.V.c, .slice s1.N.p s1.N.n s1.N.c, .slice s1.M.p s1.M.n s1.M.c] ?_ ?_ 25 #[.int .i64 0, .slice none 0 0, .int .i64 0, .int .i64 0, .int .i64 0, .slice none 0 0, .int .i64 0, .slice none 0 0, .slice none 0 0, .slice none 0 0] ?_ ?_ ?_ ?_ ?_); (exact rfl); (exact rfl); (exact rfl); (exact rfl); (exact HZHBX.out); (exact info_seat); (exact rfl); (exact seat_one s1); generalize (w3.alloc (.cells #[.int .i64 0, .slice none 0 0, .int .i64 0, .int .i64 0, .int .i64 0, .slice none 0 0, .int .i64 0, .slice none 0 0, .slice none 0 0, .slice none 0 0] 25)).setRow w3.heap.size #[.int .i64 s1.i, .slice s1.P.p s1.P.n s1.P.c, .int .i64 s1.t, .int .i64 s1.v, .int .i64 s1.r, .slice s1.L.p s1.L.n s1.L.c, .int .i64 s1.c, .slice s1.V.p s1.V.n s1.V.c, .slice s1.N.p s1.N.n s1.N.c, .slice s1.M.p s1.M.n s1.M.c] = u3 at HBX ⊢; generalize w3.heap.size = bq at HBX ⊢; have HB3 := Lib.hid (HB.out.ext HBX.out.2); have HCL3 := Lib.hid (HCL.out.ext HBX.out.2); have ci : u3.cell? ⟨B, 0, none⟩ = some (.int .i64 s.i) := box_val HB3.out 0 rfl; have cP : u3.cell? ⟨B, 1, none⟩ = some (.slice s.P.p s.P.n s.P.c) := box_val HB3.out 1 rfl; have ct : u3.cell? ⟨B, 2, none⟩ = some (.int .i64 s.t) := box_val HB3.out 2 rfl; have cv : u3.cell? ⟨B, 3, none⟩ = some (.int .i64 s.v) := box_val HB3.out 3 rfl; have cr : u3.cell? ⟨B, 4, none⟩ = some (.int .i64 s.r) := box_val HB3.out 4 rfl; have cL : u3.cell? ⟨B, 5, none⟩ = some (.slice s.L.p s.L.n s.L.c) := box_val HB3.out 5 rfl; have cc : u3.cell? ⟨B, 6, none⟩ = some (.int .i64 s.c) := box_val HB3.out 6 rfl; have cV : u3.cell? ⟨B, 7, none⟩ = some (.slice s.V.p s.V.n s.V.c) := box_val HB3.out 7 rfl; have cN : u3.cell? ⟨B, 8, none⟩ = some (.slice s.N.p s.N.n s.N.c) := box_val HB3.out 8 rfl; have cM : u3.cell? ⟨B, 9, none⟩ = some (.slice s.M.p s.M.n s.M.c) := box_val HB3.out 9 rfl; have HBY : Hid (BoxAt ((u3.alloc (.cells #[.int .i64 0, .slice none 0 0, .int .i64 0, .int .i64 0, .int .i64 0, .slice none 0 0, .int .i64 0, .slice none 0 0, .slice none 0 0, .slice none 0 0] 25)).setRow u3.heap.size #[.int .i64 s.i, .slice s.P.p s.P.n s.P.c, .int .i64 s.t, .int .i64 s.v, .int .i64 s.r, .slice s.L.p s.L.n s.L.c, .int .i64 s.c, .slice s.V.p s.V.n s.V.c, .slice s.N.p s.N.n s.N.c, .slice s.M.p s.M.n s.M.c]) u3.heap.size s ∧ Ext u3 ((u3.alloc (.cells #[.int .i64 0, .slice none 0 0, .int .i64 0, .int .i64 0, .int .i64 0, .slice none 0 0, .int .i64 0, .slice none 0 0, .slice none 0 0, .slice none 0 0] 25)).setRow u3.heap.size #[.int .i64 s.i, .slice s.P.p s.P.n s.P.c, .int .i64 s.t, .int .i64 s.v, .int .i64 s.r, .slice s.L.p s.L.n s.L.c, .int .i64 s.c, .slice s.V.p s.V.n s.V.c, .slice s.N.p s.N.n s.N.c, .slice s.M.p s.M.n s.M.c])) := Lib.hid (box_new u3 s); have HZHBY := Lib.hid (box_zero u3); have HK3 : Hid (SeatK w (fun k => k = B ∨ k = u3.heap.size) u3 s d) := Lib.hid (((HK.out.ext HBX.out.2)).wide (fun k hk h => h.elim id (fun e => absurd hk (by rw [e]; exact Nat.lt_irrefl _)))); have H13 : Hid (SeatK w (fun k => k = B ∨ k = u3.heap.size) u3 s1 d1) := Lib.hid (((H1.out.ext HBX.out.2)).wide (fun k hk h => h.elim id (fun e => absurd hk (by rw [e]; exact Nat.lt_irrefl _)))); have hbq : bq < u3.heap.size := HBX.out.1.lt; have hB3 : B < u3.heap.size := HB3.out.lt; have hC3 : b11 < u3.heap.size := HCL3.out.lt) | ((with_reducible refine wpList_store_row (o := ⟨none, .store 25 (.tmp 14) (.tmp 52), _, _, _, _⟩) ?_ 25 (.tmp 14) (.tmp 52) ?_ u3.heap.size #[.int .i64 s.i, .slice s.P.p s.P.n s.P.c, .int .i64 s.t, .int .i64 s.v, .int .i64 s.r, .slice s.L.p s.L.n s.L.c, .int .i64 s.c, .slice s.V.p s.V.n s.V.c, .slice s.N.p s.N.n s.N.c, .slice s.M.p s.M.n s.M.c] ?_ ?_ 25 #[.int .i64 0, .slice none 0 0, .int .i64 0, .int .i64 0, .int .i64 0, .slice none 0 0, .int .i64 0, .slice none 0 0, .slice none 0 0, .slice none 0 0] ?_ ?_ ?_ ?_ ?_); (exact rfl); (exact rfl); (exact rfl); (exact rfl); (exact HZHBY.out); (exact info_seat); (exact rfl); (exact seat_one s); generalize (u3.alloc (.cells #[.int .i64 0, .slice none 0 0, .int .i64 0, .int .i64 0, .int .i64 0, .slice none 0 0, .int .i64 0, .slice none 0 0, .slice none 0 0, .slice none 0 0] 25)).setRow u3.heap.size #[.int .i64 s.i, .slice s.P.p s.P.n s.P.c, .int .i64 s.t, .int .i64 s.v, .int .i64 s.r, .slice s.L.p s.L.n s.L.c, .int .i64 s.c, .slice s.V.p s.V.n s.V.c, .slice s.N.p s.N.n s.N.c, .slice s.M.p s.M.n s.M.c] = u4 at HBY ⊢; generalize u3.heap.size = bw at HBY HK3 H13 hbq hB3 hC3 ⊢; clear ci cP ct cv cr cL cc cV cN cM; have HB4 := Lib.hid (HB3.out.ext HBY.out.2); have HCL4 := Lib.hid (HCL3.out.ext HBY.out.2); have HQ4 := Lib.hid (HBX.out.1.ext HBY.out.2); have ci : u4.cell? ⟨B, 0, none⟩ = some (.int .i64 s.i) := box_val HB4.out 0 rfl; have cP : u4.cell? ⟨B, 1, none⟩ = some (.slice s.P.p s.P.n s.P.c) := box_val HB4.out 1 rfl; have ct : u4.cell? ⟨B, 2, none⟩ = some (.int .i64 s.t) := box_val HB4.out 2 rfl; have cv : u4.cell? ⟨B, 3, none⟩ = some (.int .i64 s.v) := box_val HB4.out 3 rfl; have cr : u4.cell? ⟨B, 4, none⟩ = some (.int .i64 s.r) := box_val HB4.out 4 rfl; have cL : u4.cell? ⟨B, 5, none⟩ = some (.slice s.L.p s.L.n s.L.c) := box_val HB4.out 5 rfl; have cc : u4.cell? ⟨B, 6, none⟩ = some (.int .i64 s.c) := box_val HB4.out 6 rfl; have cV : u4.cell? ⟨B, 7, none⟩ = some (.slice s.V.p s.V.n s.V.c) := box_val HB4.out 7 rfl; have cN : u4.cell? ⟨B, 8, none⟩ = some (.slice s.N.p s.N.n s.N.c) := box_val HB4.out 8 rfl; have cM : u4.cell? ⟨B, 9, none⟩ = some (.slice s.M.p s.M.n s.M.c) := box_val HB4.out 9 rfl; have a0 : u4.cell? ⟨b11, 0, none⟩ = some (.int .u8 x.1) := call_val HCL4.out 0 rfl; have a1 : u4.cell? ⟨b11, 1, none⟩ = some (.int .u16 x.2.1) := call_val HCL4.out 1 rfl; have a2 : u4.cell? ⟨b11, 2, none⟩ = some (.int .u8 x.2.2.1) := call_val HCL4.out 2 rfl; have a3 : u4.cell? ⟨b11, 3, none⟩ = some (.int .u16 x.2.2.2.1) := call_val HCL4.out 3 rfl; have a4 : u4.cell? ⟨b11, 4, none⟩ = some (.int .u8 x.2.2.2.2) := call_val HCL4.out 4 rfl))
      have HS4 := Lib.hid ((HS.out.ext HBX.out.2).ext HBY.out.2)
      have HW4 := Lib.hid HBY.out.1
      have HK4 := Lib.hid (HK3.out.ext HBY.out.2)
      have H14 := Lib.hid (H13.out.ext HBY.out.2)
      have hx4 : Ext w u4 := Ext.trans hx (Ext.trans HBX.out.2 HBY.out.2)
      have hw4 : bw < u4.heap.size := HW4.out.lt
      have hB4 : B < u4.heap.size := HB4.out.lt
      clear HB3 HCL3 HK3 H13 HZHBX HZHBY HBX HBY HK H1 HB HS HCL hx
      refine (rask_any s d u4 (HK4.out.now hx4) x.2.1 x.2.2.1 x.2.2.2.1 x.2.2.2.2).mono ?_
      rw [HBB.out]
      rintro e w5 ⟨⟨s2, rfl, hs2⟩, hx5⟩
      have HB5 := Lib.hid (HB4.out.ext hx5)
      have HS5 := Lib.hid (HS4.out.ext hx5)
      have HQ5 := Lib.hid (HQ4.out.ext hx5)
      have HW5 := Lib.hid (HW4.out.ext hx5)
      have H15 := Lib.hid (H14.out.ext hx5)
      have H25 : Hid (SeatK w (fun k => k = B ∨ k = bw) w5 s2 d1) := Lib.hid (by rw [HDD.out]; exact SeatK.map (f := fun q => askD q b1 x.2.1 x.2.2.1) HK4.out hx5 hs2)
      have hx5w : Ext w w5 := Ext.trans hx4 hx5
      clear ci cP ct cv cr cL cc cV cN cM a0 a1 a2 a3 a4 hx5
      unfold seatA
      clear hs2
      have HV : Hid (BoxAt ((w5.alloc (.cells #[.int .i64 0, .slice none 0 0, .int .i64 0, .int .i64 0, .int .i64 0, .slice none 0 0, .int .i64 0, .slice none 0 0, .slice none 0 0, .slice none 0 0] 25)).setRow w5.heap.size #[.int .i64 s2.i, .slice s2.P.p s2.P.n s2.P.c, .int .i64 s2.t, .int .i64 s2.v, .int .i64 s2.r, .slice s2.L.p s2.L.n s2.L.c, .int .i64 s2.c, .slice s2.V.p s2.V.n s2.V.c, .slice s2.N.p s2.N.n s2.N.c, .slice s2.M.p s2.M.n s2.M.c]) w5.heap.size s2 ∧ Ext w5 ((w5.alloc (.cells #[.int .i64 0, .slice none 0 0, .int .i64 0, .int .i64 0, .int .i64 0, .slice none 0 0, .int .i64 0, .slice none 0 0, .slice none 0 0, .slice none 0 0] 25)).setRow w5.heap.size #[.int .i64 s2.i, .slice s2.P.p s2.P.n s2.P.c, .int .i64 s2.t, .int .i64 s2.v, .int .i64 s2.r, .slice s2.L.p s2.L.n s2.L.c, .int .i64 s2.c, .slice s2.V.p s2.V.n s2.V.c, .slice s2.N.p s2.N.n s2.N.c, .slice s2.M.p s2.M.n s2.M.c])) := Lib.hid (box_new w5 s2)
      have HZV := Lib.hid (box_zero w5)
      go_wp2_with (first | ((with_reducible refine wpList_store_row (o := ⟨none, .store 25 (.tmp 16) (.tmp 78), _, _, _, _⟩) ?_ 25 (.tmp 16) (.tmp 78) ?_ w5.heap.size #[.int .i64 s2.i, .slice s2.P.p s2.P.n s2.P.c, .int .i64 s2.t, .int .i64 s2.v, .int .i64 s2.r, .slice s2.L.p s2.L.n s2.L.c, .int .i64 s2.c, .slice s2.V.p s2.V.n s2.V.c, .slice s2.N.p s2.N.n s2.N.c, .slice s2.M.p s2.M.n s2.M.c] ?_ ?_ 25 #[.int .i64 0, .slice none 0 0, .int .i64 0, .int .i64 0, .int .i64 0, .slice none 0 0, .int .i64 0, .slice none 0 0, .slice none 0 0, .slice none 0 0] ?_ ?_ ?_ ?_ ?_); (exact rfl); (exact rfl); (exact rfl); (exact rfl); (exact HZV.out); (exact info_seat); (exact rfl); (exact seat_one s2); generalize (w5.alloc (.cells #[.int .i64 0, .slice none 0 0, .int .i64 0, .int .i64 0, .int .i64 0, .slice none 0 0, .int .i64 0, .slice none 0 0, .slice none 0 0, .slice none 0 0] 25)).setRow w5.heap.size #[.int .i64 s2.i, .slice s2.P.p s2.P.n s2.P.c, .int .i64 s2.t, .int .i64 s2.v, .int .i64 s2.r, .slice s2.L.p s2.L.n s2.L.c, .int .i64 s2.c, .slice s2.V.p s2.V.n s2.V.c, .slice s2.N.p s2.N.n s2.N.c, .slice s2.M.p s2.M.n s2.M.c] = u5 at HV ⊢; generalize w5.heap.size = b16 at HV ⊢; have ti : u5.cell? ⟨b16, 0, none⟩ = some (.int .i64 s2.i) := box_val HV.out.1 0 rfl; have tP : u5.cell? ⟨b16, 1, none⟩ = some (.slice s2.P.p s2.P.n s2.P.c) := box_val HV.out.1 1 rfl; have tt : u5.cell? ⟨b16, 2, none⟩ = some (.int .i64 s2.t) := box_val HV.out.1 2 rfl; have tv : u5.cell? ⟨b16, 3, none⟩ = some (.int .i64 s2.v) := box_val HV.out.1 3 rfl; have tr : u5.cell? ⟨b16, 4, none⟩ = some (.int .i64 s2.r) := box_val HV.out.1 4 rfl; have tL : u5.cell? ⟨b16, 5, none⟩ = some (.slice s2.L.p s2.L.n s2.L.c) := box_val HV.out.1 5 rfl; have tc : u5.cell? ⟨b16, 6, none⟩ = some (.int .i64 s2.c) := box_val HV.out.1 6 rfl; have tV : u5.cell? ⟨b16, 7, none⟩ = some (.slice s2.V.p s2.V.n s2.V.c) := box_val HV.out.1 7 rfl; have tN : u5.cell? ⟨b16, 8, none⟩ = some (.slice s2.N.p s2.N.n s2.N.c) := box_val HV.out.1 8 rfl; have tM : u5.cell? ⟨b16, 9, none⟩ = some (.slice s2.M.p s2.M.n s2.M.c) := box_val HV.out.1 9 rfl; replace HB5 := Lib.hid (HB5.out.ext HV.out.2); replace HS5 := Lib.hid (HS5.out.ext HV.out.2); replace HQ5 := Lib.hid (HQ5.out.ext HV.out.2); replace HW5 := Lib.hid (HW5.out.ext HV.out.2); replace H15 := Lib.hid (H15.out.ext HV.out.2); replace H25 := Lib.hid (H25.out.ext HV.out.2); replace hx5w := Ext.trans hx5w HV.out.2; have HX6 : Hid (Ext w (u5.setRow bw #[.int .i64 s2.i, .slice s2.P.p s2.P.n s2.P.c, .int .i64 s2.t, .int .i64 s2.v, .int .i64 s2.r, .slice s2.L.p s2.L.n s2.L.c, .int .i64 s2.c, .slice s2.V.p s2.V.n s2.V.c, .slice s2.N.p s2.N.n s2.N.c, .slice s2.M.p s2.M.n s2.M.c])) := Lib.hid (ext_setRow hx5w (by omega) _); have HB6 : Hid (BoxAt (u5.setRow bw #[.int .i64 s2.i, .slice s2.P.p s2.P.n s2.P.c, .int .i64 s2.t, .int .i64 s2.v, .int .i64 s2.r, .slice s2.L.p s2.L.n s2.L.c, .int .i64 s2.c, .slice s2.V.p s2.V.n s2.V.c, .slice s2.N.p s2.N.n s2.N.c, .slice s2.M.p s2.M.n s2.M.c]) B s) := Lib.hid (HB5.out.setRow_ne (by omega) _); have HS6 : Hid (BoxAt (u5.setRow bw #[.int .i64 s2.i, .slice s2.P.p s2.P.n s2.P.c, .int .i64 s2.t, .int .i64 s2.v, .int .i64 s2.r, .slice s2.L.p s2.L.n s2.L.c, .int .i64 s2.c, .slice s2.V.p s2.V.n s2.V.c, .slice s2.N.p s2.N.n s2.N.c, .slice s2.M.p s2.M.n s2.M.c]) w.heap.size s0) := Lib.hid (HS5.out.setRow_ne (by omega) _); have HQ6 : Hid (BoxAt (u5.setRow bw #[.int .i64 s2.i, .slice s2.P.p s2.P.n s2.P.c, .int .i64 s2.t, .int .i64 s2.v, .int .i64 s2.r, .slice s2.L.p s2.L.n s2.L.c, .int .i64 s2.c, .slice s2.V.p s2.V.n s2.V.c, .slice s2.N.p s2.N.n s2.N.c, .slice s2.M.p s2.M.n s2.M.c]) bq s1) := Lib.hid (HQ5.out.setRow_ne (by omega) _); have HW6 : Hid (BoxAt (u5.setRow bw #[.int .i64 s2.i, .slice s2.P.p s2.P.n s2.P.c, .int .i64 s2.t, .int .i64 s2.v, .int .i64 s2.r, .slice s2.L.p s2.L.n s2.L.c, .int .i64 s2.c, .slice s2.V.p s2.V.n s2.V.c, .slice s2.N.p s2.N.n s2.N.c, .slice s2.M.p s2.M.n s2.M.c]) bw s2) := Lib.hid (HW5.out.set); have H16 : Hid (SeatK w (fun k => k = B ∨ k = bw) (u5.setRow bw #[.int .i64 s2.i, .slice s2.P.p s2.P.n s2.P.c, .int .i64 s2.t, .int .i64 s2.v, .int .i64 s2.r, .slice s2.L.p s2.L.n s2.L.c, .int .i64 s2.c, .slice s2.V.p s2.V.n s2.V.c, .slice s2.N.p s2.N.n s2.N.c, .slice s2.M.p s2.M.n s2.M.c]) s1 d1) := Lib.hid (H15.out.setRow (.inr rfl) _); have H26 : Hid (SeatK w (fun k => k = B ∨ k = bw) (u5.setRow bw #[.int .i64 s2.i, .slice s2.P.p s2.P.n s2.P.c, .int .i64 s2.t, .int .i64 s2.v, .int .i64 s2.r, .slice s2.L.p s2.L.n s2.L.c, .int .i64 s2.c, .slice s2.V.p s2.V.n s2.V.c, .slice s2.N.p s2.N.n s2.N.c, .slice s2.M.p s2.M.n s2.M.c]) s2 d1) := Lib.hid (H25.out.setRow (.inr rfl) _)) | ((with_reducible refine wpList_store_row (o := ⟨none, .store 25 (.tmp 14) (.tmp 80), _, _, _, _⟩) ?_ 25 (.tmp 14) (.tmp 80) ?_ bw #[.int .i64 s2.i, .slice s2.P.p s2.P.n s2.P.c, .int .i64 s2.t, .int .i64 s2.v, .int .i64 s2.r, .slice s2.L.p s2.L.n s2.L.c, .int .i64 s2.c, .slice s2.V.p s2.V.n s2.V.c, .slice s2.N.p s2.N.n s2.N.c, .slice s2.M.p s2.M.n s2.M.c] ?_ ?_ 25 #[.int .i64 s.i, .slice s.P.p s.P.n s.P.c, .int .i64 s.t, .int .i64 s.v, .int .i64 s.r, .slice s.L.p s.L.n s.L.c, .int .i64 s.c, .slice s.V.p s.V.n s.V.c, .slice s.N.p s.N.n s.N.c, .slice s.M.p s.M.n s.M.c] ?_ ?_ ?_ ?_ ?_); (exact rfl); (exact rfl); (exact rfl); (exact rfl); (exact HW5.out); (exact info_seat); (exact rfl); (exact seat_one s2); generalize u5.setRow bw #[.int .i64 s2.i, .slice s2.P.p s2.P.n s2.P.c, .int .i64 s2.t, .int .i64 s2.v, .int .i64 s2.r, .slice s2.L.p s2.L.n s2.L.c, .int .i64 s2.c, .slice s2.V.p s2.V.n s2.V.c, .slice s2.N.p s2.N.n s2.N.c, .slice s2.M.p s2.M.n s2.M.c] = u6 at HX6 HB6 HS6 HQ6 HW6 H16 H26 ⊢; have vi : u6.cell? ⟨bq, 0, none⟩ = some (.int .i64 s1.i) := box_val HQ6.out 0 rfl; have vP : u6.cell? ⟨bq, 1, none⟩ = some (.slice s1.P.p s1.P.n s1.P.c) := box_val HQ6.out 1 rfl; have vt : u6.cell? ⟨bq, 2, none⟩ = some (.int .i64 s1.t) := box_val HQ6.out 2 rfl; have vv : u6.cell? ⟨bq, 3, none⟩ = some (.int .i64 s1.v) := box_val HQ6.out 3 rfl; have vr : u6.cell? ⟨bq, 4, none⟩ = some (.int .i64 s1.r) := box_val HQ6.out 4 rfl; have vL : u6.cell? ⟨bq, 5, none⟩ = some (.slice s1.L.p s1.L.n s1.L.c) := box_val HQ6.out 5 rfl; have vc : u6.cell? ⟨bq, 6, none⟩ = some (.int .i64 s1.c) := box_val HQ6.out 6 rfl; have vV : u6.cell? ⟨bq, 7, none⟩ = some (.slice s1.V.p s1.V.n s1.V.c) := box_val HQ6.out 7 rfl; have vN : u6.cell? ⟨bq, 8, none⟩ = some (.slice s1.N.p s1.N.n s1.N.c) := box_val HQ6.out 8 rfl; have vM : u6.cell? ⟨bq, 9, none⟩ = some (.slice s1.M.p s1.M.n s1.M.c) := box_val HQ6.out 9 rfl; have yi : u6.cell? ⟨bw, 0, none⟩ = some (.int .i64 s2.i) := box_val HW6.out 0 rfl; have yP : u6.cell? ⟨bw, 1, none⟩ = some (.slice s2.P.p s2.P.n s2.P.c) := box_val HW6.out 1 rfl; have yt : u6.cell? ⟨bw, 2, none⟩ = some (.int .i64 s2.t) := box_val HW6.out 2 rfl; have yv : u6.cell? ⟨bw, 3, none⟩ = some (.int .i64 s2.v) := box_val HW6.out 3 rfl; have yr : u6.cell? ⟨bw, 4, none⟩ = some (.int .i64 s2.r) := box_val HW6.out 4 rfl; have yL : u6.cell? ⟨bw, 5, none⟩ = some (.slice s2.L.p s2.L.n s2.L.c) := box_val HW6.out 5 rfl; have yc : u6.cell? ⟨bw, 6, none⟩ = some (.int .i64 s2.c) := box_val HW6.out 6 rfl; have yV : u6.cell? ⟨bw, 7, none⟩ = some (.slice s2.V.p s2.V.n s2.V.c) := box_val HW6.out 7 rfl; have yN : u6.cell? ⟨bw, 8, none⟩ = some (.slice s2.N.p s2.N.n s2.N.c) := box_val HW6.out 8 rfl; have yM : u6.cell? ⟨bw, 9, none⟩ = some (.slice s2.M.p s2.M.n s2.M.c) := box_val HW6.out 9 rfl))
      refine (rsame_any s1 s2 d1 d1 _ (H16.out.now HX6.out) (H26.out.now HX6.out)).mono ?_
      rintro e w6 ⟨bb, rfl, hbb, hx6⟩
      obtain rfl : bb = true := hbb.2 rfl
      have HB6 := Lib.hid (HB6.out.ext hx6)
      have HS6 := Lib.hid (HS6.out.ext hx6)
      have HQ6 := Lib.hid (HQ6.out.ext hx6)
      have H16 : Hid (SeatK w (fun k => k = B) w6 s1 d1) := Lib.hid ((H16.out.ext hx6).wide (fun k _ h => .inl h))
      have hx7 : Ext w w6 := Ext.trans HX6.out hx6
      have HX8 : Hid (Ext w (w6.setRow B #[.int .i64 s1.i, .slice s1.P.p s1.P.n s1.P.c, .int .i64 s1.t, .int .i64 s1.v, .int .i64 s1.r, .slice s1.L.p s1.L.n s1.L.c, .int .i64 s1.c, .slice s1.V.p s1.V.n s1.V.c, .slice s1.N.p s1.N.n s1.N.c, .slice s1.M.p s1.M.n s1.M.c])) := Lib.hid (ext_setRow hx7 (Nat.le_of_lt hBB) _)
      have HB8 : Hid (BoxAt (w6.setRow B #[.int .i64 s1.i, .slice s1.P.p s1.P.n s1.P.c, .int .i64 s1.t, .int .i64 s1.v, .int .i64 s1.r, .slice s1.L.p s1.L.n s1.L.c, .int .i64 s1.c, .slice s1.V.p s1.V.n s1.V.c, .slice s1.N.p s1.N.n s1.N.c, .slice s1.M.p s1.M.n s1.M.c]) B s1) := Lib.hid (HB6.out.set)
      have HS8 : Hid (BoxAt (w6.setRow B #[.int .i64 s1.i, .slice s1.P.p s1.P.n s1.P.c, .int .i64 s1.t, .int .i64 s1.v, .int .i64 s1.r, .slice s1.L.p s1.L.n s1.L.c, .int .i64 s1.c, .slice s1.V.p s1.V.n s1.V.c, .slice s1.N.p s1.N.n s1.N.c, .slice s1.M.p s1.M.n s1.M.c]) w.heap.size s0) := Lib.hid (HS6.out.setRow_ne (Nat.ne_of_lt hBB) _)
      have H18 : Hid (SeatK w (fun k => k = B) (w6.setRow B #[.int .i64 s1.i, .slice s1.P.p s1.P.n s1.P.c, .int .i64 s1.t, .int .i64 s1.v, .int .i64 s1.r, .slice s1.L.p s1.L.n s1.L.c, .int .i64 s1.c, .slice s1.V.p s1.V.n s1.V.c, .slice s1.N.p s1.N.n s1.N.c, .slice s1.M.p s1.M.n s1.M.c]) s1 d1) := Lib.hid (H16.out.setRow rfl _)
      clear hbb hx6
      clear vi vP vt vv vr vL vc vV vN vM yi yP yt yv yr yL yc yV yN yM ti tP tt tv tr tL tc tV tN tM
      have zi : w6.cell? ⟨bq, 0, none⟩ = some (.int .i64 s1.i) := box_val HQ6.out 0 rfl
      have zP : w6.cell? ⟨bq, 1, none⟩ = some (.slice s1.P.p s1.P.n s1.P.c) := box_val HQ6.out 1 rfl
      have zt : w6.cell? ⟨bq, 2, none⟩ = some (.int .i64 s1.t) := box_val HQ6.out 2 rfl
      have zv : w6.cell? ⟨bq, 3, none⟩ = some (.int .i64 s1.v) := box_val HQ6.out 3 rfl
      have zr : w6.cell? ⟨bq, 4, none⟩ = some (.int .i64 s1.r) := box_val HQ6.out 4 rfl
      have zL : w6.cell? ⟨bq, 5, none⟩ = some (.slice s1.L.p s1.L.n s1.L.c) := box_val HQ6.out 5 rfl
      have zc : w6.cell? ⟨bq, 6, none⟩ = some (.int .i64 s1.c) := box_val HQ6.out 6 rfl
      have zV : w6.cell? ⟨bq, 7, none⟩ = some (.slice s1.V.p s1.V.n s1.V.c) := box_val HQ6.out 7 rfl
      have zN : w6.cell? ⟨bq, 8, none⟩ = some (.slice s1.N.p s1.N.n s1.N.c) := box_val HQ6.out 8 rfl
      have zM : w6.cell? ⟨bq, 9, none⟩ = some (.slice s1.M.p s1.M.n s1.M.c) := box_val HQ6.out 9 rfl
      go_wp2_with ((with_reducible refine wpList_store_row (o := ⟨none, .store 25 (.tmp 9) (.tmp 103), _, _, _, _⟩) ?_ 25 (.tmp 9) (.tmp 103) ?_ B #[.int .i64 s1.i, .slice s1.P.p s1.P.n s1.P.c, .int .i64 s1.t, .int .i64 s1.v, .int .i64 s1.r, .slice s1.L.p s1.L.n s1.L.c, .int .i64 s1.c, .slice s1.V.p s1.V.n s1.V.c, .slice s1.N.p s1.N.n s1.N.c, .slice s1.M.p s1.M.n s1.M.c] ?_ ?_ 25 #[.int .i64 s.i, .slice s.P.p s.P.n s.P.c, .int .i64 s.t, .int .i64 s.v, .int .i64 s.r, .slice s.L.p s.L.n s.L.c, .int .i64 s.c, .slice s.V.p s.V.n s.V.c, .slice s.N.p s.N.n s.N.c, .slice s.M.p s.M.n s.M.c] ?_ ?_ ?_ ?_ ?_); (exact rfl); (exact rfl); (exact rfl); (exact rfl); (exact HB6.out); (exact info_seat); (exact rfl); (exact seat_one s1); generalize w6.setRow B #[.int .i64 s1.i, .slice s1.P.p s1.P.n s1.P.c, .int .i64 s1.t, .int .i64 s1.v, .int .i64 s1.r, .slice s1.L.p s1.L.n s1.L.c, .int .i64 s1.c, .slice s1.V.p s1.V.n s1.V.c, .slice s1.N.p s1.N.n s1.N.c, .slice s1.M.p s1.M.n s1.M.c] = u8 at HX8 HB8 HS8 H18 ⊢)
      go_roundw
      case rel => exact ⟨k + 1, s1, d1, by go_num, by omega, HX8.out, HB8, H18, HS8, Lib.hid ⟨by rw [HST.out.i]; exact HD.out.1, by rw [HST.out.c]; exact HD.out.2.1, by have h1 := HST.out.le; have h2 := HD.out.2.2.1; omega, by have h1 := HST.out.up; have h2 := HD.out.2.2.2; omega⟩⟩
      case measure => simp [intOf]; omega
    · obtain rfl : k = n := by omega
      clear HK HB HD
      have cP : wr.cell? ⟨w.heap.size, 1, none⟩ = some (.slice s0.P.p s0.P.n s0.P.c) := box_val HS.out 1 rfl
      have HCP : Hid (∀ w', Ext wr w' → w'.cell? ⟨w.heap.size, 1, none⟩ = some (.slice s0.P.p s0.P.n s0.P.c)) := Lib.hid fun w' h => h.cell cP
      have HP0 : Hid (∀ W, Ext wr W → RowI .i64 W s0.P.p s0.P.n d0.P) := Lib.hid (fun W hW => (HR0.out W (Ext.trans hx hW)).P.1.ints.1)
      have HP30 : Hid (s0.P.n ≤ 1000000) := Lib.hid (by have h1 := HF.out.lP; have h2 := (HR0.out w (Ext.refl _)).P.1.1; omega)
      have HMM : Hid (∀ W, Ext wr W → RowI .i64 W p2 m ms) := Lib.hid (fun W hW => HM.out.ext (Ext.trans hx hW))
      clear cP HS
      obtain ⟨bw, hbw⟩ : ∃ b, wonB ms d0.P = b := ⟨_, rfl⟩
      have HBW := Lib.hid hbw
      clear hbw
      have hxx : Ext wr wr.drew := Ext.drew (Ext.refl _)
      go_wp2
      go_region_held3 (fun w' => w'.cell? ⟨w.heap.size, 1, none⟩ = some (.slice s0.P.p s0.P.n s0.P.c)) (exact HCP.out _ hxx) (first | (go_at_call 16; refine (won_any _ _ _ _ _ _ ms d0.P _ (HMM.out _ hxx) (HP0.out _ hxx) HP30.out).mono ?_; rintro e w4 ⟨rfl, hx4⟩; rw [HBW.out]; replace hxx := Ext.trans hxx hx4; clear hx4) | (go_at_call 17; refine (rwon_any _ _ _ _ _ _ ms d0.P _ (HMM.out _ hxx) (HP0.out _ hxx) HP30.out).mono ?_; rintro e w4 ⟨rfl, hx4⟩; rw [HBW.out]; replace hxx := Ext.trans hxx hx4; clear hx4))
      all_goals
        go_wp2
        go_ret
        exact ⟨by simp, Ext.trans hx hxx⟩
end Go.Proofs.Ytmcenioblbcehaa.Lg
