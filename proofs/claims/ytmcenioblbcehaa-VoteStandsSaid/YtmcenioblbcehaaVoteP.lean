/- Votes: the walk of VoteStands. -/
import Derived.Test.YtmcenioblbcehaaVoteM
namespace Go.Proofs.Ytmcenioblbcehaa.Lg
open Go.RowKit Go.Proofs.Ytmcenioblbcehaa
set_option linter.unusedVariables false
theorem upD_P (d : St) (t : Int) : (upD d t).P = d.P := by unfold upD; split <;> rfl
theorem askD_P (d : St) (b : Bool) (t who : Int) : (askD d b t who).P = d.P := by unfold askD; split <;> exact upD_P d t
theorem stepD_P (d : St) (x : Cl) : (stepD d x).P = d.P := by
  unfold stepD; split
  · rfl
  · split
    · exact upD_P _ _
    · exact askD_P _ _ _ _
theorem stepD_L (d : St) (x : Cl) : (stepD d x).L = d.L := by
  unfold stepD; split
  · rfl
  · split
    · exact upD_L _ _
    · exact askD_L _ _ _ _
theorem stepD_t (d : St) (x : Cl) (h : ¬ x.1 % 4 = 0) : x.2.1 ≤ (stepD d x).t := by
  unfold stepD; rw [if_neg h]; split
  · exact upD_t _ _
  · rw [askD_t]; exact upD_t _ _
theorem at0_up {l : List Int} (h : ∀ k, k + 1 < l.length → at0 l k < at0 l (k + 1)) : ∀ (n a : Nat), a + 1 + n < l.length → at0 l a < at0 l (a + 1 + n)
  | 0, a, ha => h a ha
  | n + 1, a, ha => by
    have h1 := at0_up h n a (by omega)
    have h2 := h (a + 1 + n) (by omega)
    have : a + 1 + (n + 1) = a + 1 + n + 1 := by omega
    rw [this]; omega
theorem nodup_up {l : List Int} (h : ∀ k, k + 1 < l.length → at0 l k < at0 l (k + 1)) : l.Nodup := by
  refine List.pairwise_iff_getElem.2 fun i j hi hj hij e => ?_
  have h1 := at0_up h (j - i - 1) i (by omega)
  have e2 : i + 1 + (j - i - 1) = j := by omega
  rw [e2] at h1
  simp [at0, hi, hj] at h1
  omega
theorem won_self {l : List Int} {i : Int} (h : ∀ k, k + 1 < l.length → at0 l k < at0 l (k + 1)) (hi : i ∈ l) : wonB [i] l = decide (l.length = 1) := by
  have h1 : hits [i] l = 1 := by
    have e := (nodup_up h).count (a := i)
    rw [if_pos hi, List.count_eq_countP, List.countP_eq_length_filter] at e
    rw [← e]
    unfold hits
    congr 1
    refine List.filter_congr fun p _ => ?_
    by_cases e : p = i <;> simp [e]
  have h2 : 0 < l.length := List.length_pos_of_mem hi
  unfold wonB
  rw [h1]
  by_cases e : l.length = 1
  · rw [decide_eq_true e, decide_eq_true (by omega)]
  · rw [decide_eq_false e, decide_eq_false (by omega)]
def StandsI (l : List Cl) (d0 d : St) (k : Nat) : Prop := d.i = d0.i ∧ d.c = d0.c ∧ 0 ≤ d.t ∧ d.t ≤ 1000000 + k ∧ d.P = d0.P ∧ d.L = d0.L ∧ ∀ (j : Nat) (x : Cl), j < k → l[j]? = some x → ¬ x.1 % 4 = 0 → x.2.1 ≤ d.t
theorem StandsI.next {l : List Cl} {d0 d d1 : St} {k : Nat} {b : Bool} {x : Cl} (h : StandsI l d0 d k) (hf : StepF d d1 b x) (hx : l[k]? = some x) (h1 : stepD d x = d1) : StandsI l d0 d1 (k + 1) := by
  obtain ⟨a1, a2, a3, a4, a5, a6, a7⟩ := h
  refine ⟨by rw [hf.i]; exact a1, by rw [hf.c]; exact a2, by have := hf.le; omega, by have := hf.up; omega, by rw [← h1, stepD_P]; exact a5, by rw [← h1, stepD_L]; exact a6, fun j y hj hy hk => ?_⟩
  by_cases e : j = k
  · subst e
    obtain rfl : x = y := by rw [hx] at hy; exact Option.some.inj hy
    rw [← h1]; exact stepD_t _ _ hk
  · have h2 := a7 j y (by omega) hy hk
    have h3 := hf.le
    omega
def StandsJ (U : World) (n : Nat) (i : Value) (wr : World) : Prop := ∃ k : Nat, i = .int .i64 k ∧ k ≤ n ∧ Ext U wr
def RetE (wr : World) (b : Bool) (d : St) (w2 : World) (e : Ending) (w' : World) : Prop := (∃ s', e = .returned (.tuple #[.agg (seatA s'), .bool b]) ∧ ∀ W, Ext wr W → SeatR W s' d) ∧ Ext w2 w'
theorem newer_big {l : List Ent} (h1 : l.length ≤ 30) (h2 : ∀ j, j < l.length → (l.getD j (0, [])).1 ≤ 1000000) : newerB l 1000000 1000000 = true := by
  unfold newerB
  refine decide_eq_true ?_
  have h3 : termOf l l.length ≤ 1000000 := by
    cases h : l.length with
    | zero => rw [show ((0 : Nat) : Int) = 0 from rfl, termOf_zero]; omega
    | succ n => rw [show ((n + 1 : Nat) : Int) = (n : Int) + 1 by omega, termOf_succ]; exact h2 n (by omega)
  omega
def StandsR (w : World) (B n : Nat) (s0 : SeatV) (d0 : St) (l : List Cl) (i : Value) (wr : World) : Prop :=
  ∃ (k : Nat) (s : SeatV) (d : St), i = .int .i64 k ∧ k ≤ n ∧ Ext w wr ∧ Hid (BoxAt wr B s) ∧ Hid (SeatK w (fun k => k = B) wr s d) ∧ Hid (BoxAt wr w.heap.size s0) ∧ Hid (StandsI l d0 d k)

set_option maxRecDepth 100000 in
set_option maxHeartbeats 16000000 in
theorem stands_walk {p1 : Option Addr} {n c1 : Nat} {l : List Cl} (s0 : SeatV) (d0 : St) (w : World) (h : SeatR w s0 d0) (hl : LCall.Row w p1 n l) :
    Calls Try.prog 7 #[.agg (seatA s0), .slice p1 n c1] w fun e w' => e = .returned (.bool true) ∧ Ext w w' := by
  have H0 := Lib.hid h
  have HL := Lib.hid hl
  have hn := hl.2.1
  have BS : Hid (BoxAt (w.alloc (.cells #[.int .i64 s0.i, .slice s0.P.p s0.P.n s0.P.c, .int .i64 s0.t, .int .i64 s0.v, .int .i64 s0.r, .slice s0.L.p s0.L.n s0.L.c, .int .i64 s0.c, .slice s0.V.p s0.V.n s0.V.c, .slice s0.N.p s0.N.n s0.N.c, .slice s0.M.p s0.M.n s0.M.c] 25)) w.heap.size s0) := Lib.hid (by have := heap_alloc_new w (.cells #[.int .i64 s0.i, .slice s0.P.p s0.P.n s0.P.c, .int .i64 s0.t, .int .i64 s0.v, .int .i64 s0.r, .slice s0.L.p s0.L.n s0.L.c, .int .i64 s0.c, .slice s0.V.p s0.V.n s0.V.c, .slice s0.N.p s0.N.n s0.N.c, .slice s0.M.p s0.M.n s0.M.c] 25); simpa [BoxAt, seatA] using this)
  have hx : Ext w (w.alloc (.cells #[.int .i64 s0.i, .slice s0.P.p s0.P.n s0.P.c, .int .i64 s0.t, .int .i64 s0.v, .int .i64 s0.r, .slice s0.L.p s0.L.n s0.L.c, .int .i64 s0.c, .slice s0.V.p s0.V.n s0.V.c, .slice s0.N.p s0.N.n s0.N.c, .slice s0.M.p s0.M.n s0.M.c] 25)) := Ext.alloc _ _
  have h0R : ∀ W, Ext w W → SeatR W s0 d0 := fun W hW => H0.out.ext hW
  have HR0 := Lib.hid h0R
  clear h hl h0R
  unfold seatA
  go_enter Try.func7, Try.ntmps7
  go_wp2_with fail
  refine (head_any _).mono ?_
  rintro e w1 ⟨rfl, hx1⟩
  replace BS := Lib.hid (BS.out.ext hx1)
  replace hx := Ext.trans hx hx1
  replace H0 := Lib.hid (H0.out.ext hx)
  clear hx1
  have ci : w1.cell? ⟨w.heap.size, 0, none⟩ = some (.int .i64 s0.i) := box_val BS.out 0 rfl
  have cP : w1.cell? ⟨w.heap.size, 1, none⟩ = some (.slice s0.P.p s0.P.n s0.P.c) := box_val BS.out 1 rfl
  have ct : w1.cell? ⟨w.heap.size, 2, none⟩ = some (.int .i64 s0.t) := box_val BS.out 2 rfl
  have cv : w1.cell? ⟨w.heap.size, 3, none⟩ = some (.int .i64 s0.v) := box_val BS.out 3 rfl
  have cr : w1.cell? ⟨w.heap.size, 4, none⟩ = some (.int .i64 s0.r) := box_val BS.out 4 rfl
  have cL : w1.cell? ⟨w.heap.size, 5, none⟩ = some (.slice s0.L.p s0.L.n s0.L.c) := box_val BS.out 5 rfl
  have cc : w1.cell? ⟨w.heap.size, 6, none⟩ = some (.int .i64 s0.c) := box_val BS.out 6 rfl
  have cV : w1.cell? ⟨w.heap.size, 7, none⟩ = some (.slice s0.V.p s0.V.n s0.V.c) := box_val BS.out 7 rfl
  have cN : w1.cell? ⟨w.heap.size, 8, none⟩ = some (.slice s0.N.p s0.N.n s0.N.c) := box_val BS.out 8 rfl
  have cM : w1.cell? ⟨w.heap.size, 9, none⟩ = some (.slice s0.M.p s0.M.n s0.M.c) := box_val BS.out 9 rfl
  go_wp2_with fail
  refine (fits_seat s0 d0 _ H0.out).mono ?_
  rintro e w2 ⟨⟨q, rfl, hq⟩, hx1⟩
  replace BS := Lib.hid (BS.out.ext hx1)
  replace hx := Ext.trans hx hx1
  replace H0 := Lib.hid (H0.out.ext hx1)
  clear hx1 ci cP ct cv cr cL cc cV cN cM
  cases q
  · clear hq
    go_wp2
    go_ret
    exact ⟨rfl, hx⟩
  have HF := Lib.hid (hq rfl)
  clear hq
  by_cases h30 : (30 : Int) < (n : Int)
  · go_wp2
    go_ret
    exact ⟨rfl, hx⟩
  have ci : w2.cell? ⟨w.heap.size, 0, none⟩ = some (.int .i64 s0.i) := box_val BS.out 0 rfl
  have cP : w2.cell? ⟨w.heap.size, 1, none⟩ = some (.slice s0.P.p s0.P.n s0.P.c) := box_val BS.out 1 rfl
  have ct : w2.cell? ⟨w.heap.size, 2, none⟩ = some (.int .i64 s0.t) := box_val BS.out 2 rfl
  have cv : w2.cell? ⟨w.heap.size, 3, none⟩ = some (.int .i64 s0.v) := box_val BS.out 3 rfl
  have cr : w2.cell? ⟨w.heap.size, 4, none⟩ = some (.int .i64 s0.r) := box_val BS.out 4 rfl
  have cL : w2.cell? ⟨w.heap.size, 5, none⟩ = some (.slice s0.L.p s0.L.n s0.L.c) := box_val BS.out 5 rfl
  have cc : w2.cell? ⟨w.heap.size, 6, none⟩ = some (.int .i64 s0.c) := box_val BS.out 6 rfl
  have cV : w2.cell? ⟨w.heap.size, 7, none⟩ = some (.slice s0.V.p s0.V.n s0.V.c) := box_val BS.out 7 rfl
  have cN : w2.cell? ⟨w.heap.size, 8, none⟩ = some (.slice s0.N.p s0.N.n s0.N.c) := box_val BS.out 8 rfl
  have cM : w2.cell? ⟨w.heap.size, 9, none⟩ = some (.slice s0.M.p s0.M.n s0.M.c) := box_val BS.out 9 rfl
  have HBX : Hid (BoxAt ((w2.alloc (.cells #[.int .i64 0, .slice none 0 0, .int .i64 0, .int .i64 0, .int .i64 0, .slice none 0 0, .int .i64 0, .slice none 0 0, .slice none 0 0, .slice none 0 0] 25)).setRow w2.heap.size #[.int .i64 s0.i, .slice s0.P.p s0.P.n s0.P.c, .int .i64 s0.t, .int .i64 s0.v, .int .i64 s0.r, .slice s0.L.p s0.L.n s0.L.c, .int .i64 s0.c, .slice s0.V.p s0.V.n s0.V.c, .slice s0.N.p s0.N.n s0.N.c, .slice s0.M.p s0.M.n s0.M.c]) w2.heap.size s0 ∧ Ext w2 ((w2.alloc (.cells #[.int .i64 0, .slice none 0 0, .int .i64 0, .int .i64 0, .int .i64 0, .slice none 0 0, .int .i64 0, .slice none 0 0, .slice none 0 0, .slice none 0 0] 25)).setRow w2.heap.size #[.int .i64 s0.i, .slice s0.P.p s0.P.n s0.P.c, .int .i64 s0.t, .int .i64 s0.v, .int .i64 s0.r, .slice s0.L.p s0.L.n s0.L.c, .int .i64 s0.c, .slice s0.V.p s0.V.n s0.V.c, .slice s0.N.p s0.N.n s0.N.c, .slice s0.M.p s0.M.n s0.M.c])) := Lib.hid (box_new w2 s0)
  have HZ := Lib.hid (box_zero w2)
  have hBB : w.heap.size < w2.heap.size := BS.out.lt
  have HXX := Lib.hid hx
  have cv2 : ((w2.alloc (.cells #[.int .i64 0, .slice none 0 0, .int .i64 0, .int .i64 0, .int .i64 0, .slice none 0 0, .int .i64 0, .slice none 0 0, .slice none 0 0, .slice none 0 0] 25)).setRow w2.heap.size #[.int .i64 s0.i, .slice s0.P.p s0.P.n s0.P.c, .int .i64 s0.t, .int .i64 s0.v, .int .i64 s0.r, .slice s0.L.p s0.L.n s0.L.c, .int .i64 s0.c, .slice s0.V.p s0.V.n s0.V.c, .slice s0.N.p s0.N.n s0.N.c, .slice s0.M.p s0.M.n s0.M.c]).cell? ⟨w.heap.size, 3, none⟩ = some (.int .i64 s0.v) := box_val (BS.out.ext HBX.out.2) 3 rfl
  go_wp2_with ((with_reducible refine wpList_store_row (o := ⟨none, .store 25 (.tmp 7) (.tmp 30), _, _, _, _⟩) ?_ 25 (.tmp 7) (.tmp 30) ?_ w2.heap.size #[.int .i64 s0.i, .slice s0.P.p s0.P.n s0.P.c, .int .i64 s0.t, .int .i64 s0.v, .int .i64 s0.r, .slice s0.L.p s0.L.n s0.L.c, .int .i64 s0.c, .slice s0.V.p s0.V.n s0.V.c, .slice s0.N.p s0.N.n s0.N.c, .slice s0.M.p s0.M.n s0.M.c] ?_ ?_ 25 #[.int .i64 0, .slice none 0 0, .int .i64 0, .int .i64 0, .int .i64 0, .slice none 0 0, .int .i64 0, .slice none 0 0, .slice none 0 0, .slice none 0 0] ?_ ?_ ?_ ?_ ?_); (exact rfl); (exact rfl); (exact rfl); (exact rfl); (exact HZ.out); (exact info_seat); (exact rfl); (exact seat_one s0); generalize (w2.alloc (.cells #[.int .i64 0, .slice none 0 0, .int .i64 0, .int .i64 0, .int .i64 0, .slice none 0 0, .int .i64 0, .slice none 0 0, .slice none 0 0, .slice none 0 0] 25)).setRow w2.heap.size #[.int .i64 s0.i, .slice s0.P.p s0.P.n s0.P.c, .int .i64 s0.t, .int .i64 s0.v, .int .i64 s0.r, .slice s0.L.p s0.L.n s0.L.c, .int .i64 s0.c, .slice s0.V.p s0.V.n s0.V.c, .slice s0.N.p s0.N.n s0.N.c, .slice s0.M.p s0.M.n s0.M.c] = u2 at HBX cv2 ⊢; generalize w2.heap.size = B at HBX hBB ⊢)
  have B7 := Lib.hid HBX.out.1
  replace BS := Lib.hid (BS.out.ext HBX.out.2)
  have hxu : Ext w u2 := Ext.trans hx HBX.out.2
  have HKK : Hid (SeatK w (fun k => k = B) u2 s0 d0) := Lib.hid (fun W a => HR0.out W a.ext)
  clear HBX HZ ci cP ct cv cr cL cc cV cN cM cv2
  go_loopw [8] (fun i wr => StandsR w B n s0 d0 l i wr) (fun i _ => n - (intOf i).toNat)
  case atStart => exact ⟨0, s0, d0, rfl, by omega, hxu, B7, HKK, BS, Lib.hid ⟨rfl, rfl, HF.out.t0, by have := HF.out.t1; omega, rfl, rfl, fun j x hj => by omega⟩⟩
  case round =>
    clear hxu B7 HKK BS H0
    obtain ⟨k, s, d, rfl, hk, hxr, HB, HK, HS, HD⟩ := hrel
    by_cases hlt : k < n
    · have hlt' : (k : Int) < (n : Int) := by omega
      have hlt0 : (0 : Int) ≤ (k : Int) := by omega
      obtain ⟨b, off, x, rfl, hy, hok, hcx⟩ := call_at (HL.out.ext hxr) hlt
      have HCX := Lib.hid hcx
      have HOK := Lib.hid hok
      obtain ⟨cd0, cd1, ct0, ct1, cw0, cw1, cl0, cl1, cm0, cm1⟩ := hok
      have HY := Lib.hid hy
      clear hy hcx
      have ci : wr.cell? ⟨B, 0, none⟩ = some (.int .i64 s.i) := box_val HB.out 0 rfl
      have cP : wr.cell? ⟨B, 1, none⟩ = some (.slice s.P.p s.P.n s.P.c) := box_val HB.out 1 rfl
      have ct : wr.cell? ⟨B, 2, none⟩ = some (.int .i64 s.t) := box_val HB.out 2 rfl
      have cv : wr.cell? ⟨B, 3, none⟩ = some (.int .i64 s.v) := box_val HB.out 3 rfl
      have cr : wr.cell? ⟨B, 4, none⟩ = some (.int .i64 s.r) := box_val HB.out 4 rfl
      have cL : wr.cell? ⟨B, 5, none⟩ = some (.slice s.L.p s.L.n s.L.c) := box_val HB.out 5 rfl
      have cc : wr.cell? ⟨B, 6, none⟩ = some (.int .i64 s.c) := box_val HB.out 6 rfl
      have cV : wr.cell? ⟨B, 7, none⟩ = some (.slice s.V.p s.V.n s.V.c) := box_val HB.out 7 rfl
      have cN : wr.cell? ⟨B, 8, none⟩ = some (.slice s.N.p s.N.n s.N.c) := box_val HB.out 8 rfl
      have cM : wr.cell? ⟨B, 9, none⟩ = some (.slice s.M.p s.M.n s.M.c) := box_val HB.out 9 rfl
      have e0 : wr.cell? ⟨b, off + k * 5, none⟩ = some (.int .u8 x.1) := HCX.out 0 _ rfl
      have e1 : wr.cell? ⟨b, off + k * 5 + 1, none⟩ = some (.int .u16 x.2.1) := HCX.out 1 _ rfl
      have e2 : wr.cell? ⟨b, off + k * 5 + 2, none⟩ = some (.int .u8 x.2.2.1) := HCX.out 2 _ rfl
      have e3 : wr.cell? ⟨b, off + k * 5 + 3, none⟩ = some (.int .u16 x.2.2.2.1) := HCX.out 3 _ rfl
      have e4 : wr.cell? ⟨b, off + k * 5 + 4, none⟩ = some (.int .u8 x.2.2.2.2) := HCX.out 4 _ rfl
      have HSS : Hid (∀ w', Ext wr w' → w'.cell? ⟨B, 0, none⟩ = some (.int .i64 s.i) ∧ w'.cell? ⟨B, 1, none⟩ = some (.slice s.P.p s.P.n s.P.c) ∧ w'.cell? ⟨B, 2, none⟩ = some (.int .i64 s.t) ∧ w'.cell? ⟨B, 3, none⟩ = some (.int .i64 s.v) ∧ w'.cell? ⟨B, 4, none⟩ = some (.int .i64 s.r) ∧ w'.cell? ⟨B, 5, none⟩ = some (.slice s.L.p s.L.n s.L.c) ∧ w'.cell? ⟨B, 6, none⟩ = some (.int .i64 s.c) ∧ w'.cell? ⟨B, 7, none⟩ = some (.slice s.V.p s.V.n s.V.c) ∧ w'.cell? ⟨B, 8, none⟩ = some (.slice s.N.p s.N.n s.N.c) ∧ w'.cell? ⟨B, 9, none⟩ = some (.slice s.M.p s.M.n s.M.c) ∧ w'.cell? ⟨b, off + k * 5, none⟩ = some (.int .u8 x.1) ∧ w'.cell? ⟨b, off + k * 5 + 1, none⟩ = some (.int .u16 x.2.1) ∧ w'.cell? ⟨b, off + k * 5 + 2, none⟩ = some (.int .u8 x.2.2.1) ∧ w'.cell? ⟨b, off + k * 5 + 3, none⟩ = some (.int .u16 x.2.2.2.1) ∧ w'.cell? ⟨b, off + k * 5 + 4, none⟩ = some (.int .u8 x.2.2.2.2)) := Lib.hid fun w' h => ⟨h.cell ci, h.cell cP, h.cell ct, h.cell cv, h.cell cr, h.cell cL, h.cell cc, h.cell cV, h.cell cN, h.cell cM, h.cell e0, h.cell e1, h.cell e2, h.cell e3, h.cell e4⟩
      clear ci cP ct cv cr cL cc cV cN cM e0 e1 e2 e3 e4
      have hb0 : 0 ≤ d.i ∧ d.i ≤ 1000000 := by rw [HD.out.1]; exact ⟨HF.out.i0, HF.out.i1⟩
      have ht0 : 0 ≤ d.t ∧ d.t ≤ 1000000000 := ⟨HD.out.2.2.1, by have := HD.out.2.2.2.1; omega⟩
      have HBL := Lib.hid HB.out.lt
      have HSF0 := Lib.hid (stepF d x HOK.out)
      obtain ⟨d1, hd1⟩ : ∃ d1, stepD d x = d1 := ⟨_, rfl⟩
      obtain ⟨b1, hb1⟩ : ∃ b1, stepB d x = b1 := ⟨_, rfl⟩
      have HST1 : Hid (∀ w2, Ext wr w2 → Calls Try.prog 11 #[.agg (seatA s), .agg (callA x)] w2 fun e w' => RetStep w (fun k => k = B) w2 b1 d1 e w') := Lib.hid (fun w2 hw2 => by
        have h := step_any w (fun k => k = B) s d x w2 (HK.out.ext hw2) (Ext.trans hxr hw2) (fun k hk => by subst hk; exact Nat.lt_of_lt_of_le HBL.out hw2.size) HOK.out hb0 ht0
        rw [hd1, hb1] at h; exact h)
      have HST2 : Hid (∀ w2, Ext wr w2 → wr.heap.size < w2.heap.size → Calls Try.prog 11 #[.agg (seatA s), .agg (callA x)] w2 fun e w' => RetStep w (fun k => k = B ∨ k = wr.heap.size) w2 b1 d1 e w') := Lib.hid (fun w2 hw2 hlt2 => by
        have h := step_any w (fun k => k = B ∨ k = wr.heap.size) s d x w2 ((HK.out.wide (fun k hk h => h.elim id (fun e => absurd hk (by rw [e]; exact Nat.lt_irrefl _)))).ext hw2) (Ext.trans hxr hw2) (fun k hk => hk.elim (fun e => by subst e; exact Nat.lt_of_lt_of_le HBL.out hw2.size) (fun e => by rw [e]; exact hlt2)) HOK.out hb0 ht0
        rw [hd1, hb1] at h; exact h)
      rw [hd1, hb1] at HSF0
      have HEQ := Lib.hid hd1
      clear hd1 hb1
      have HI := Lib.hid hb0
      have HTT := Lib.hid ht0
      clear hb0 ht0
      have hxx : Ext wr wr.drew := Ext.drew (Ext.refl _)
      unfold seatA callA at HST1 HST2
      go_wp2
      go_region_held3 (fun w' => w'.cell? ⟨B, 0, none⟩ = some (.int .i64 s.i) ∧ w'.cell? ⟨B, 1, none⟩ = some (.slice s.P.p s.P.n s.P.c) ∧ w'.cell? ⟨B, 2, none⟩ = some (.int .i64 s.t) ∧ w'.cell? ⟨B, 3, none⟩ = some (.int .i64 s.v) ∧ w'.cell? ⟨B, 4, none⟩ = some (.int .i64 s.r) ∧ w'.cell? ⟨B, 5, none⟩ = some (.slice s.L.p s.L.n s.L.c) ∧ w'.cell? ⟨B, 6, none⟩ = some (.int .i64 s.c) ∧ w'.cell? ⟨B, 7, none⟩ = some (.slice s.V.p s.V.n s.V.c) ∧ w'.cell? ⟨B, 8, none⟩ = some (.slice s.N.p s.N.n s.N.c) ∧ w'.cell? ⟨B, 9, none⟩ = some (.slice s.M.p s.M.n s.M.c) ∧ w'.cell? ⟨b, off + k * 5, none⟩ = some (.int .u8 x.1) ∧ w'.cell? ⟨b, off + k * 5 + 1, none⟩ = some (.int .u16 x.2.1) ∧ w'.cell? ⟨b, off + k * 5 + 2, none⟩ = some (.int .u8 x.2.2.1) ∧ w'.cell? ⟨b, off + k * 5 + 3, none⟩ = some (.int .u16 x.2.2.2.1) ∧ w'.cell? ⟨b, off + k * 5 + 4, none⟩ = some (.int .u8 x.2.2.2.2)) ((refine HSS.out _ ?_; first | (with_reducible exact hxx) | (with_reducible exact Ext.trans hxx (Ext.alloc _ _)) | (exact ext_setRow (Ext.trans hxx (Ext.alloc _ _)) hxx.size _) | (exact ext_setRow hxx (Nat.le_refl _) _))) (first | (go_at_call 11; refine (HST1.out _ (by with_reducible exact hxx)).mono ?_; rintro e w3 ⟨⟨s1, rfl, hs1⟩, hx3⟩; have hyy : Ext wr w3 := Ext.trans hxx hx3; have HFIN : ∃ U bq, ((w3.alloc (.cells #[.int .i64 0, .slice none 0 0, .int .i64 0, .int .i64 0, .int .i64 0, .slice none 0 0, .int .i64 0, .slice none 0 0, .slice none 0 0, .slice none 0 0] 25)).setRow w3.heap.size (seatA s1)) = U ∧ w3.heap.size = bq ∧ Ext wr U ∧ Hid (BoxAt U bq s1) ∧ Hid (SeatK w (fun k => k = B) U s1 d1) := ⟨_, _, rfl, rfl, Ext.trans hyy (box_new w3 s1).2, Lib.hid (box_new w3 s1).1, Lib.hid (hs1.ext (box_new w3 s1).2)⟩; have HZZ := Lib.hid (box_zero w3); replace hxx := hyy; clear hx3 hyy hs1) | (go_at_call 11; refine (HST2.out _ (by with_reducible exact Ext.trans hxx (Ext.alloc _ _)) (by simp)).mono ?_; rintro e w3 ⟨⟨s1, rfl, hs1⟩, hx3⟩; have HZZ : Hid (w3.heap[wr.heap.size]? = some (.cells #[.int .i64 0, .slice none 0 0, .int .i64 0, .int .i64 0, .int .i64 0, .slice none 0 0, .int .i64 0, .slice none 0 0, .slice none 0 0, .slice none 0 0] 25 (0, 0))) := Lib.hid (heap_ext (box_zero wr.drew) hx3); have hyy : Ext wr w3 := Ext.trans (Ext.trans hxx (Ext.alloc _ _)) hx3; have HFIN : ∃ U bq, (w3.setRow wr.heap.size (seatA s1)) = U ∧ wr.heap.size = bq ∧ Ext wr U ∧ Hid (BoxAt U bq s1) ∧ Hid (SeatK w (fun k => k = B) U s1 d1) := ⟨_, _, rfl, rfl, ext_setRow hyy (Nat.le_refl _) _, Lib.hid (setRow_heap _ _ _ _ _ _ HZZ.out), Lib.hid ((hs1.setRow (.inr rfl) _).wide (fun k _ h => .inl h))⟩; replace hxx := hyy; clear hx3 hyy hs1) | (refine upon_row HZZ.out rfl ?_))
      all_goals
        clear HZZ hxx HST1 HST2
        obtain ⟨U, bq, hU, hbq, hxU, HQ, K1⟩ := HFIN
        rw [hU, hbq]
        unfold seatA
        clear hU hbq
        have HB5 := Lib.hid (HB.out.ext hxU)
        have HS5 := Lib.hid (HS.out.ext hxU)
        clear HK HB HS
        have hx7 : Ext w U := Ext.trans hxr hxU
        have HX8 : Hid (Ext w (U.setRow B #[.int .i64 s1.i, .slice s1.P.p s1.P.n s1.P.c, .int .i64 s1.t, .int .i64 s1.v, .int .i64 s1.r, .slice s1.L.p s1.L.n s1.L.c, .int .i64 s1.c, .slice s1.V.p s1.V.n s1.V.c, .slice s1.N.p s1.N.n s1.N.c, .slice s1.M.p s1.M.n s1.M.c])) := Lib.hid (ext_setRow hx7 (Nat.le_of_lt hBB) _)
        have HB8 : Hid (BoxAt (U.setRow B #[.int .i64 s1.i, .slice s1.P.p s1.P.n s1.P.c, .int .i64 s1.t, .int .i64 s1.v, .int .i64 s1.r, .slice s1.L.p s1.L.n s1.L.c, .int .i64 s1.c, .slice s1.V.p s1.V.n s1.V.c, .slice s1.N.p s1.N.n s1.N.c, .slice s1.M.p s1.M.n s1.M.c]) B s1) := Lib.hid (HB5.out.set)
        have HS8 : Hid (BoxAt (U.setRow B #[.int .i64 s1.i, .slice s1.P.p s1.P.n s1.P.c, .int .i64 s1.t, .int .i64 s1.v, .int .i64 s1.r, .slice s1.L.p s1.L.n s1.L.c, .int .i64 s1.c, .slice s1.V.p s1.V.n s1.V.c, .slice s1.N.p s1.N.n s1.N.c, .slice s1.M.p s1.M.n s1.M.c]) w.heap.size s0) := Lib.hid (HS5.out.setRow_ne (Nat.ne_of_lt hBB) _)
        have H18 : Hid (SeatK w (fun k => k = B) (U.setRow B #[.int .i64 s1.i, .slice s1.P.p s1.P.n s1.P.c, .int .i64 s1.t, .int .i64 s1.v, .int .i64 s1.r, .slice s1.L.p s1.L.n s1.L.c, .int .i64 s1.c, .slice s1.V.p s1.V.n s1.V.c, .slice s1.N.p s1.N.n s1.N.c, .slice s1.M.p s1.M.n s1.M.c]) s1 d1) := Lib.hid (K1.out.setRow rfl _)
        have zi : U.cell? ⟨bq, 0, none⟩ = some (.int .i64 s1.i) := box_val HQ.out 0 rfl
        have zP : U.cell? ⟨bq, 1, none⟩ = some (.slice s1.P.p s1.P.n s1.P.c) := box_val HQ.out 1 rfl
        have zt : U.cell? ⟨bq, 2, none⟩ = some (.int .i64 s1.t) := box_val HQ.out 2 rfl
        have zv : U.cell? ⟨bq, 3, none⟩ = some (.int .i64 s1.v) := box_val HQ.out 3 rfl
        have zr : U.cell? ⟨bq, 4, none⟩ = some (.int .i64 s1.r) := box_val HQ.out 4 rfl
        have zL : U.cell? ⟨bq, 5, none⟩ = some (.slice s1.L.p s1.L.n s1.L.c) := box_val HQ.out 5 rfl
        have zc : U.cell? ⟨bq, 6, none⟩ = some (.int .i64 s1.c) := box_val HQ.out 6 rfl
        have zV : U.cell? ⟨bq, 7, none⟩ = some (.slice s1.V.p s1.V.n s1.V.c) := box_val HQ.out 7 rfl
        have zN : U.cell? ⟨bq, 8, none⟩ = some (.slice s1.N.p s1.N.n s1.N.c) := box_val HQ.out 8 rfl
        have zM : U.cell? ⟨bq, 9, none⟩ = some (.slice s1.M.p s1.M.n s1.M.c) := box_val HQ.out 9 rfl
        clear K1 HQ
        go_wp2_with ((with_reducible refine wpList_store_row (o := ⟨none, .store 25 (.tmp 7) (.tmp 46), _, _, _, _⟩) ?_ 25 (.tmp 7) (.tmp 46) ?_ B #[.int .i64 s1.i, .slice s1.P.p s1.P.n s1.P.c, .int .i64 s1.t, .int .i64 s1.v, .int .i64 s1.r, .slice s1.L.p s1.L.n s1.L.c, .int .i64 s1.c, .slice s1.V.p s1.V.n s1.V.c, .slice s1.N.p s1.N.n s1.N.c, .slice s1.M.p s1.M.n s1.M.c] ?_ ?_ 25 #[.int .i64 s.i, .slice s.P.p s.P.n s.P.c, .int .i64 s.t, .int .i64 s.v, .int .i64 s.r, .slice s.L.p s.L.n s.L.c, .int .i64 s.c, .slice s.V.p s.V.n s.V.c, .slice s.N.p s.N.n s.N.c, .slice s.M.p s.M.n s.M.c] ?_ ?_ ?_ ?_ ?_); (exact rfl); (exact rfl); (exact rfl); (exact rfl); (exact HB5.out); (exact info_seat); (exact rfl); (exact seat_one s1); generalize U.setRow B #[.int .i64 s1.i, .slice s1.P.p s1.P.n s1.P.c, .int .i64 s1.t, .int .i64 s1.v, .int .i64 s1.r, .slice s1.L.p s1.L.n s1.L.c, .int .i64 s1.c, .slice s1.V.p s1.V.n s1.V.c, .slice s1.N.p s1.N.n s1.N.c, .slice s1.M.p s1.M.n s1.M.c] = U8 at HX8 HB8 HS8 H18 ⊢)
        go_roundw
        case rel => exact ⟨k + 1, s1, d1, by go_num, by omega, HX8.out, HB8, H18, HS8, Lib.hid (StandsI.next HD.out HSF0.out HY.out HEQ.out)⟩
        case measure => simp [intOf]; omega
    · obtain rfl : n = k := by omega
      have h0 := HK.out.now hxr
      have hi0 : (Lit.int .i64 s.i).wf = true := by rw [h0.i, HD.out.1]; have h1 := HF.out.i0; have h2 := HF.out.i1; simp [Lit.wf, IntKind.min, IntKind.max, IntKind.signed, IntKind.bits]; omega
      have ht0 : 0 ≤ s.t := by rw [h0.t]; exact HD.out.2.2.1
      have ht1 : s.t ≤ 1000000000 := by rw [h0.t]; have := HD.out.2.2.2.1; omega
      have ci : wr.cell? ⟨B, 0, none⟩ = some (.int .i64 s.i) := box_val HB.out 0 rfl
      have cP : wr.cell? ⟨B, 1, none⟩ = some (.slice s.P.p s.P.n s.P.c) := box_val HB.out 1 rfl
      have ct : wr.cell? ⟨B, 2, none⟩ = some (.int .i64 s.t) := box_val HB.out 2 rfl
      have cv : wr.cell? ⟨B, 3, none⟩ = some (.int .i64 s.v) := box_val HB.out 3 rfl
      have cr : wr.cell? ⟨B, 4, none⟩ = some (.int .i64 s.r) := box_val HB.out 4 rfl
      have cL : wr.cell? ⟨B, 5, none⟩ = some (.slice s.L.p s.L.n s.L.c) := box_val HB.out 5 rfl
      have cc : wr.cell? ⟨B, 6, none⟩ = some (.int .i64 s.c) := box_val HB.out 6 rfl
      have cV : wr.cell? ⟨B, 7, none⟩ = some (.slice s.V.p s.V.n s.V.c) := box_val HB.out 7 rfl
      have cN : wr.cell? ⟨B, 8, none⟩ = some (.slice s.N.p s.N.n s.N.c) := box_val HB.out 8 rfl
      have cM : wr.cell? ⟨B, 9, none⟩ = some (.slice s.M.p s.M.n s.M.c) := box_val HB.out 9 rfl
      go_wp2_with fail
      refine (begin_any s _ hi0 ht0 ht1).mono ?_
      rintro e w3 ⟨⟨s1, b, rfl, hb0, hb1, hs1⟩, hx3⟩
      have HE := Lib.hid (SeatK.begin_ HK.out hx3 hb1 (fun e => by subst e; have := HB.out.lt; omega) hs1)
      have HB3 := Lib.hid (HB.out.ext hx3)
      have HS3 := Lib.hid (HS.out.ext hx3)
      have hx4 : Ext w w3 := Ext.trans hxr hx3
      have hts : s.t = d.t := h0.t
      clear hs1 hb0 hb1 hx3 HB HK HS hxr h0 hi0
      unfold seatA
      clear ci cP ct cv cr cL cc cV cN cM
      have HBX : Hid (BoxAt ((w3.alloc (.cells #[.int .i64 0, .slice none 0 0, .int .i64 0, .int .i64 0, .int .i64 0, .slice none 0 0, .int .i64 0, .slice none 0 0, .slice none 0 0, .slice none 0 0] 25)).setRow w3.heap.size #[.int .i64 s1.i, .slice s1.P.p s1.P.n s1.P.c, .int .i64 s1.t, .int .i64 s1.v, .int .i64 s1.r, .slice s1.L.p s1.L.n s1.L.c, .int .i64 s1.c, .slice s1.V.p s1.V.n s1.V.c, .slice s1.N.p s1.N.n s1.N.c, .slice s1.M.p s1.M.n s1.M.c]) w3.heap.size s1 ∧ Ext w3 ((w3.alloc (.cells #[.int .i64 0, .slice none 0 0, .int .i64 0, .int .i64 0, .int .i64 0, .slice none 0 0, .int .i64 0, .slice none 0 0, .slice none 0 0, .slice none 0 0] 25)).setRow w3.heap.size #[.int .i64 s1.i, .slice s1.P.p s1.P.n s1.P.c, .int .i64 s1.t, .int .i64 s1.v, .int .i64 s1.r, .slice s1.L.p s1.L.n s1.L.c, .int .i64 s1.c, .slice s1.V.p s1.V.n s1.V.c, .slice s1.N.p s1.N.n s1.N.c, .slice s1.M.p s1.M.n s1.M.c])) := Lib.hid (box_new w3 s1)
      have HZ := Lib.hid (box_zero w3)
      go_wp2_with ((with_reducible refine wpList_store_row (o := ⟨none, .store 25 (.tmp 11) (.tmp 48), _, _, _, _⟩) ?_ 25 (.tmp 11) (.tmp 48) ?_ w3.heap.size #[.int .i64 s1.i, .slice s1.P.p s1.P.n s1.P.c, .int .i64 s1.t, .int .i64 s1.v, .int .i64 s1.r, .slice s1.L.p s1.L.n s1.L.c, .int .i64 s1.c, .slice s1.V.p s1.V.n s1.V.c, .slice s1.N.p s1.N.n s1.N.c, .slice s1.M.p s1.M.n s1.M.c] ?_ ?_ 25 #[.int .i64 0, .slice none 0 0, .int .i64 0, .int .i64 0, .int .i64 0, .slice none 0 0, .int .i64 0, .slice none 0 0, .slice none 0 0, .slice none 0 0] ?_ ?_ ?_ ?_ ?_); (exact rfl); (exact rfl); (exact rfl); (exact rfl); (exact HZ.out); (exact info_seat); (exact rfl); (exact seat_one s1); generalize (w3.alloc (.cells #[.int .i64 0, .slice none 0 0, .int .i64 0, .int .i64 0, .int .i64 0, .slice none 0 0, .int .i64 0, .slice none 0 0, .slice none 0 0, .slice none 0 0] 25)).setRow w3.heap.size #[.int .i64 s1.i, .slice s1.P.p s1.P.n s1.P.c, .int .i64 s1.t, .int .i64 s1.v, .int .i64 s1.r, .slice s1.L.p s1.L.n s1.L.c, .int .i64 s1.c, .slice s1.V.p s1.V.n s1.V.c, .slice s1.N.p s1.N.n s1.N.c, .slice s1.M.p s1.M.n s1.M.c] = U at HBX ⊢; generalize w3.heap.size = bq at HBX ⊢)
      have HQ := Lib.hid HBX.out.1
      have HB5 := Lib.hid (HB3.out.ext HBX.out.2)
      have HS5 := Lib.hid (HS3.out.ext HBX.out.2)
      have hxU : Ext w U := Ext.trans hx4 HBX.out.2
      have HR1 : Hid (SeatR U s1 (beginD d)) := Lib.hid ((HE.out.ext HBX.out.2).now hxU)
      clear HB3 HS3 hx4 HE HBX HZ
      have hw0 : IntKind.i64.wrap (s.t + 1) = s.t + 1 := IntWalk.i64_in _ (by omega)
      have r1 : U.cell? ⟨bq, 2, none⟩ = some (.int .i64 s1.t) := box_val HQ.out 2 rfl
      have q5 : (s1.t != s.t + 1) = false := by rw [HR1.out.t, hts]; simp [beginD]
      have r2 : U.cell? ⟨B, 2, none⟩ = some (.int .i64 s.t) := box_val HB5.out 2 rfl
      have r3 : U.cell? ⟨bq, 3, none⟩ = some (.int .i64 s1.v) := box_val HQ.out 3 rfl
      have q6 : (s1.v != s0.i) = false := by rw [HR1.out.v, (HR0.out w (Ext.refl _)).i, ← HD.out.1]; simp [beginD]
      have r4 : U.cell? ⟨w.heap.size, 0, none⟩ = some (.int .i64 s0.i) := box_val HS5.out 0 rfl
      have r5 : U.cell? ⟨bq, 7, none⟩ = some (.slice s1.V.p s1.V.n s1.V.c) := box_val HQ.out 7 rfl
      have r6 : U.cell? ⟨bq, 1, none⟩ = some (.slice s1.P.p s1.P.n s1.P.c) := box_val HQ.out 1 rfl
      have r7 : U.cell? ⟨w.heap.size, 1, none⟩ = some (.slice s0.P.p s0.P.n s0.P.c) := box_val HS5.out 1 rfl
      have HSS : Hid (∀ w', Ext U w' → w'.cell? ⟨bq, 2, none⟩ = some (.int .i64 s1.t) ∧ w'.cell? ⟨B, 2, none⟩ = some (.int .i64 s.t) ∧ w'.cell? ⟨bq, 3, none⟩ = some (.int .i64 s1.v) ∧ w'.cell? ⟨w.heap.size, 0, none⟩ = some (.int .i64 s0.i) ∧ w'.cell? ⟨bq, 7, none⟩ = some (.slice s1.V.p s1.V.n s1.V.c) ∧ w'.cell? ⟨bq, 1, none⟩ = some (.slice s1.P.p s1.P.n s1.P.c) ∧ w'.cell? ⟨w.heap.size, 1, none⟩ = some (.slice s0.P.p s0.P.n s0.P.c)) := Lib.hid fun w' h => ⟨h.cell r1, h.cell r2, h.cell r3, h.cell r4, h.cell r5, h.cell r6, h.cell r7⟩
      have HWN : Hid (wonB [d.i] d.P = decide (s0.P.n = 1)) := Lib.hid (by
        rw [HD.out.1, HD.out.2.2.2.2.1, won_self HF.out.up HF.out.has, (HR0.out w (Ext.refl _)).P.1.1])
      have HP30 : Hid (s1.P.n ≤ 1000000) := Lib.hid (by have h1 := HF.out.lP; have h2 := HR1.out.P.1.1; have h3 := HD.out.2.2.2.2.1; rw [← h2]; show d.P.length ≤ _; rw [h3]; omega)
      clear r1 r2 r3 r4 r5 r6 r7 hts
      have hxx : Ext U U.drew := Ext.drew (Ext.refl _)
      obtain ⟨O, hO⟩ : ∃ O, decide (s0.P.n = 1) = O := ⟨_, rfl⟩
      have hO2 : ((s0.P.n : Int) == 1) = O := by rw [← hO]; by_cases e : s0.P.n = 1 <;> simp [e] <;> omega
      rw [hO] at HWN
      clear hO
      go_wp2
      go_region_held3 (fun w' => w'.cell? ⟨bq, 2, none⟩ = some (.int .i64 s1.t) ∧ w'.cell? ⟨B, 2, none⟩ = some (.int .i64 s.t) ∧ w'.cell? ⟨bq, 3, none⟩ = some (.int .i64 s1.v) ∧ w'.cell? ⟨w.heap.size, 0, none⟩ = some (.int .i64 s0.i) ∧ w'.cell? ⟨bq, 7, none⟩ = some (.slice s1.V.p s1.V.n s1.V.c) ∧ w'.cell? ⟨bq, 1, none⟩ = some (.slice s1.P.p s1.P.n s1.P.c) ∧ w'.cell? ⟨w.heap.size, 1, none⟩ = some (.slice s0.P.p s0.P.n s0.P.c)) ((refine HSS.out _ ?_; first | (with_reducible exact hxx))) (first | (go_at_call 16; refine (won_any s1.V.p s1.P.p s1.V.n s1.V.c s1.P.n s1.P.c [d.i] d.P _ ((HR1.out.ext hxx).V.1.ints.1) ((HR1.out.ext hxx).P.1.ints.1) HP30.out).mono ?_; rintro e w4 ⟨rfl, hx9⟩; rw [HWN.out]; replace hxx := Ext.trans hxx hx9; clear hx9))
      have hOO : (O != O) = false := by cases O <;> rfl
      have HTM := Lib.hid (fun (j : Nat) (x : Cl) (hj : j < n) (hx : l[j]? = some x) (h : ¬ x.1 % 4 = 0) => HD.out.2.2.2.2.2.2 j x hj hx h)
      have HEV : Hid ((beginD d).t = d.t + 1 ∧ (beginD d).v = s0.i ∧ (beginD d).L = d0.L ∧ 0 ≤ s0.i) := Lib.hid ⟨rfl, by rw [(HR0.out w (Ext.refl _)).i, ← HD.out.1]; rfl, HD.out.2.2.2.2.2.1, by rw [(HR0.out w (Ext.refl _)).i]; exact HF.out.i0⟩
      obtain ⟨ev, hev⟩ : ∃ ev, beginD d = ev := ⟨_, rfl⟩
      rw [hev] at HEV
      rw [hev] at HR1
      clear hev
      replace hxU := Lib.hid hxU
      go_wp2
      go_loopw [12] (fun i wr => StandsJ U n i wr) (fun i _ => n - (intOf i).toNat)
      case atStart => exact ⟨0, rfl, by omega, hxx⟩
      case round =>
        obtain ⟨k, rfl, hk, hx⟩ := hrel
        clear hxx
        by_cases hlt : k < n
        · have hlt' : (k : Int) < (n : Int) := by omega
          have hlt0 : (0 : Int) ≤ (k : Int) := by omega
          obtain ⟨b, off, x, rfl, hy, hok, hcx⟩ := call_at (HL.out.ext (Ext.trans hxU.out hx)) hlt
          have HCX := Lib.hid hcx
          have hle := fun h => HTM.out k x hlt hy h
          have HLE := Lib.hid hle
          obtain ⟨cd0, cd1, ct0, ct1, cw0, cw1, cl0, cl1, cm0, cm1⟩ := hok
          clear hy hcx hle
          have e0 : wr.cell? ⟨b, off + k * 5, none⟩ = some (.int .u8 x.1) := HCX.out 0 _ rfl
          by_cases h2 : x.1 % 4 < 2
          · go_wp2
            go_roundw
            case rel => exact ⟨k + 1, by go_num, by omega, hx⟩
            case measure => simp [intOf]; omega
          have HQr := Lib.hid (HQ.out.ext hx)
          have HRr : Hid (∀ W, Ext wr W → SeatR W s1 ev) := Lib.hid (fun W hW => HR1.out.ext (Ext.trans hx hW))
          have HSS : Hid (∀ w', Ext wr w' → w'.cell? ⟨bq, 0, none⟩ = some (.int .i64 s1.i) ∧ w'.cell? ⟨bq, 1, none⟩ = some (.slice s1.P.p s1.P.n s1.P.c) ∧ w'.cell? ⟨bq, 2, none⟩ = some (.int .i64 s1.t) ∧ w'.cell? ⟨bq, 3, none⟩ = some (.int .i64 s1.v) ∧ w'.cell? ⟨bq, 4, none⟩ = some (.int .i64 s1.r) ∧ w'.cell? ⟨bq, 5, none⟩ = some (.slice s1.L.p s1.L.n s1.L.c) ∧ w'.cell? ⟨bq, 6, none⟩ = some (.int .i64 s1.c) ∧ w'.cell? ⟨bq, 7, none⟩ = some (.slice s1.V.p s1.V.n s1.V.c) ∧ w'.cell? ⟨bq, 8, none⟩ = some (.slice s1.N.p s1.N.n s1.N.c) ∧ w'.cell? ⟨bq, 9, none⟩ = some (.slice s1.M.p s1.M.n s1.M.c) ∧ w'.cell? ⟨b, off + k * 5 + 1, none⟩ = some (.int .u16 x.2.1) ∧ w'.cell? ⟨b, off + k * 5 + 2, none⟩ = some (.int .u8 x.2.2.1)) := Lib.hid fun w' h => ⟨h.cell (box_val HQr.out 0 rfl), h.cell (box_val HQr.out 1 rfl), h.cell (box_val HQr.out 2 rfl), h.cell (box_val HQr.out 3 rfl), h.cell (box_val HQr.out 4 rfl), h.cell (box_val HQr.out 5 rfl), h.cell (box_val HQr.out 6 rfl), h.cell (box_val HQr.out 7 rfl), h.cell (box_val HQr.out 8 rfl), h.cell (box_val HQr.out 9 rfl), h.cell (HCX.out 1 _ rfl), h.cell (HCX.out 2 _ rfl)⟩
          have hw1 : IntKind.i64.wrap x.2.1 = x.2.1 := IntWalk.i64_in _ (by omega)
          have hw2 : IntKind.i64.wrap x.2.2.1 = x.2.2.1 := IntWalk.i64_in _ (by omega)
          have hold : askB ev x.2.1 x.2.2.1 1000000 1000000 = false ∧ askD ev false x.2.1 x.2.2.1 = ev := ask_old (by rw [HEV.out.1]; have := HLE.out (by omega); omega)
          have HOLD := Lib.hid hold
          have HAK : Hid (∀ w2, Ext wr w2 → Calls Try.prog 21 #[.agg (seatA s1), .int .i64 x.2.1, .int .i64 x.2.2.1, .int .i64 1000000, .int .i64 1000000] w2 fun e w' => RetE wr false ev w2 e w') := Lib.hid (fun w2 hw2 => (ask_any s1 ev w2 (HRr.out _ hw2) x.2.1 x.2.2.1 1000000 1000000).mono fun e w' h => by
            obtain ⟨⟨s', he, hs⟩, hx'⟩ := h
            rw [HOLD.out.1] at he hs
            exact ⟨⟨s', he, fun W hW => by have h : SeatR W s' (askD ev false x.2.1 x.2.2.1) := hs W ev (HRr.out W hW); rw [HOLD.out.2] at h; exact h⟩, hx'⟩)
          clear hold
          have hxx : Ext wr wr.drew := Ext.drew (Ext.refl _)
          unfold seatA at HAK
          go_wp2
          clear e0
          go_region_held3 (fun w' => w'.cell? ⟨bq, 0, none⟩ = some (.int .i64 s1.i) ∧ w'.cell? ⟨bq, 1, none⟩ = some (.slice s1.P.p s1.P.n s1.P.c) ∧ w'.cell? ⟨bq, 2, none⟩ = some (.int .i64 s1.t) ∧ w'.cell? ⟨bq, 3, none⟩ = some (.int .i64 s1.v) ∧ w'.cell? ⟨bq, 4, none⟩ = some (.int .i64 s1.r) ∧ w'.cell? ⟨bq, 5, none⟩ = some (.slice s1.L.p s1.L.n s1.L.c) ∧ w'.cell? ⟨bq, 6, none⟩ = some (.int .i64 s1.c) ∧ w'.cell? ⟨bq, 7, none⟩ = some (.slice s1.V.p s1.V.n s1.V.c) ∧ w'.cell? ⟨bq, 8, none⟩ = some (.slice s1.N.p s1.N.n s1.N.c) ∧ w'.cell? ⟨bq, 9, none⟩ = some (.slice s1.M.p s1.M.n s1.M.c) ∧ w'.cell? ⟨b, off + k * 5 + 1, none⟩ = some (.int .u16 x.2.1) ∧ w'.cell? ⟨b, off + k * 5 + 2, none⟩ = some (.int .u8 x.2.2.1)) ((refine HSS.out _ ?_; first | (with_reducible exact hxx) | (with_reducible exact Ext.trans hxx (Ext.alloc _ _)) | (exact ext_setRow (Ext.trans hxx (Ext.alloc _ _)) hxx.size _) | (exact ext_setRow hxx (Nat.le_refl _) _))) (first | (go_at_call 21; refine (HAK.out _ (by with_reducible exact hxx)).mono ?_; rintro e w3 ⟨⟨s2, rfl, hs1⟩, hx3⟩; have hyy : Ext wr w3 := Ext.trans hxx hx3; have HFIN : ∃ V b13, ((w3.alloc (.cells #[.int .i64 0, .slice none 0 0, .int .i64 0, .int .i64 0, .int .i64 0, .slice none 0 0, .int .i64 0, .slice none 0 0, .slice none 0 0, .slice none 0 0] 25)).setRow w3.heap.size (seatA s2)) = V ∧ w3.heap.size = b13 ∧ Ext wr V ∧ Hid (BoxAt V b13 s2) ∧ Hid (∀ W, Ext wr W → SeatR W s2 ev) := ⟨_, _, rfl, rfl, Ext.trans hyy (box_new w3 s2).2, Lib.hid (box_new w3 s2).1, Lib.hid hs1⟩; have HZZ := Lib.hid (box_zero w3); replace hxx := hyy; clear hx3 hyy hs1) | (go_at_call 21; refine (HAK.out _ (by with_reducible exact Ext.trans hxx (Ext.alloc _ _))).mono ?_; rintro e w3 ⟨⟨s2, rfl, hs1⟩, hx3⟩; have HZZ : Hid (w3.heap[wr.heap.size]? = some (.cells #[.int .i64 0, .slice none 0 0, .int .i64 0, .int .i64 0, .int .i64 0, .slice none 0 0, .int .i64 0, .slice none 0 0, .slice none 0 0, .slice none 0 0] 25 (0, 0))) := Lib.hid (heap_ext (box_zero wr.drew) hx3); have hyy : Ext wr w3 := Ext.trans (Ext.trans hxx (Ext.alloc _ _)) hx3; have HFIN : ∃ V b13, (w3.setRow wr.heap.size (seatA s2)) = V ∧ wr.heap.size = b13 ∧ Ext wr V ∧ Hid (BoxAt V b13 s2) ∧ Hid (∀ W, Ext wr W → SeatR W s2 ev) := ⟨_, _, rfl, rfl, ext_setRow hyy (Nat.le_refl _) _, Lib.hid (setRow_heap _ _ _ _ _ _ HZZ.out), Lib.hid hs1⟩; replace hxx := hyy; clear hx3 hyy hs1) | (refine upon_row HZZ.out rfl ?_))
          all_goals
            clear HZZ hxx HAK HSS
            obtain ⟨V, b13, hV, hb13, hxV, HQ2, HR2⟩ := HFIN
            rw [hV, hb13]
            unfold seatA
            clear hV hb13
            have HQ3 := Lib.hid (HQr.out.ext hxV)
            have zi : V.cell? ⟨b13, 0, none⟩ = some (.int .i64 s2.i) := box_val HQ2.out 0 rfl
            have zP : V.cell? ⟨b13, 1, none⟩ = some (.slice s2.P.p s2.P.n s2.P.c) := box_val HQ2.out 1 rfl
            have zt : V.cell? ⟨b13, 2, none⟩ = some (.int .i64 s2.t) := box_val HQ2.out 2 rfl
            have zv : V.cell? ⟨b13, 3, none⟩ = some (.int .i64 s2.v) := box_val HQ2.out 3 rfl
            have zr : V.cell? ⟨b13, 4, none⟩ = some (.int .i64 s2.r) := box_val HQ2.out 4 rfl
            have zL : V.cell? ⟨b13, 5, none⟩ = some (.slice s2.L.p s2.L.n s2.L.c) := box_val HQ2.out 5 rfl
            have zc : V.cell? ⟨b13, 6, none⟩ = some (.int .i64 s2.c) := box_val HQ2.out 6 rfl
            have zV : V.cell? ⟨b13, 7, none⟩ = some (.slice s2.V.p s2.V.n s2.V.c) := box_val HQ2.out 7 rfl
            have zN : V.cell? ⟨b13, 8, none⟩ = some (.slice s2.N.p s2.N.n s2.N.c) := box_val HQ2.out 8 rfl
            have zM : V.cell? ⟨b13, 9, none⟩ = some (.slice s2.M.p s2.M.n s2.M.c) := box_val HQ2.out 9 rfl
            have yi : V.cell? ⟨bq, 0, none⟩ = some (.int .i64 s1.i) := box_val HQ3.out 0 rfl
            have yP : V.cell? ⟨bq, 1, none⟩ = some (.slice s1.P.p s1.P.n s1.P.c) := box_val HQ3.out 1 rfl
            have yt : V.cell? ⟨bq, 2, none⟩ = some (.int .i64 s1.t) := box_val HQ3.out 2 rfl
            have yv : V.cell? ⟨bq, 3, none⟩ = some (.int .i64 s1.v) := box_val HQ3.out 3 rfl
            have yr : V.cell? ⟨bq, 4, none⟩ = some (.int .i64 s1.r) := box_val HQ3.out 4 rfl
            have yL : V.cell? ⟨bq, 5, none⟩ = some (.slice s1.L.p s1.L.n s1.L.c) := box_val HQ3.out 5 rfl
            have yc : V.cell? ⟨bq, 6, none⟩ = some (.int .i64 s1.c) := box_val HQ3.out 6 rfl
            have yV : V.cell? ⟨bq, 7, none⟩ = some (.slice s1.V.p s1.V.n s1.V.c) := box_val HQ3.out 7 rfl
            have yN : V.cell? ⟨bq, 8, none⟩ = some (.slice s1.N.p s1.N.n s1.N.c) := box_val HQ3.out 8 rfl
            have yM : V.cell? ⟨bq, 9, none⟩ = some (.slice s1.M.p s1.M.n s1.M.c) := box_val HQ3.out 9 rfl
            go_wp2_with fail
            refine (rsame_any s2 s1 ev ev _ (HR2.out _ hxV) (HRr.out _ hxV)).mono ?_
            rintro e w6 ⟨bb, rfl, hbb, hx6⟩
            obtain rfl : bb = true := hbb.2 rfl
            clear hbb zi zP zt zv zr zL zc zV zN zM yi yP yt yv yr yL yc yV yN yM HQ2 HR2
            have hx7 : Ext wr w6 := Ext.trans hxV hx6
            have HQ6 := Lib.hid (HQr.out.ext hx7)
            have HR6 : Hid (∀ W, Ext w6 W → SeatR W s1 ev) := Lib.hid (fun W hW => HRr.out W (Ext.trans hx7 hW))
            have HSS : Hid (∀ w', Ext w6 w' → w'.cell? ⟨bq, 0, none⟩ = some (.int .i64 s1.i) ∧ w'.cell? ⟨bq, 1, none⟩ = some (.slice s1.P.p s1.P.n s1.P.c) ∧ w'.cell? ⟨bq, 2, none⟩ = some (.int .i64 s1.t) ∧ w'.cell? ⟨bq, 3, none⟩ = some (.int .i64 s1.v) ∧ w'.cell? ⟨bq, 4, none⟩ = some (.int .i64 s1.r) ∧ w'.cell? ⟨bq, 5, none⟩ = some (.slice s1.L.p s1.L.n s1.L.c) ∧ w'.cell? ⟨bq, 6, none⟩ = some (.int .i64 s1.c) ∧ w'.cell? ⟨bq, 7, none⟩ = some (.slice s1.V.p s1.V.n s1.V.c) ∧ w'.cell? ⟨bq, 8, none⟩ = some (.slice s1.N.p s1.N.n s1.N.c) ∧ w'.cell? ⟨bq, 9, none⟩ = some (.slice s1.M.p s1.M.n s1.M.c) ∧ w'.cell? ⟨b, off + k * 5 + 2, none⟩ = some (.int .u8 x.2.2.1)) := Lib.hid fun w' h => ⟨h.cell (box_val HQ6.out 0 rfl), h.cell (box_val HQ6.out 1 rfl), h.cell (box_val HQ6.out 2 rfl), h.cell (box_val HQ6.out 3 rfl), h.cell (box_val HQ6.out 4 rfl), h.cell (box_val HQ6.out 5 rfl), h.cell (box_val HQ6.out 6 rfl), h.cell (box_val HQ6.out 7 rfl), h.cell (box_val HQ6.out 8 rfl), h.cell (box_val HQ6.out 9 rfl), h.cell (hx7.cell (HCX.out 2 _ rfl))⟩
            obtain ⟨C, hC⟩ : ∃ C, (x.2.2.1 == s0.i) = C := ⟨_, rfl⟩
            have hnew : askB ev s1.t x.2.2.1 1000000 1000000 = C ∧ askD ev C s1.t x.2.2.1 = ev := by
              have et : s1.t = ev.t := (HRr.out wr (Ext.refl _)).t
              have eu : upD ev s1.t = ev := upD_up _ _ (by omega)
              have nb : newerB ev.L 1000000 1000000 = true := by rw [HEV.out.2.2.1]; exact newer_big HF.out.lL (fun j hj => (HF.out.ent j hj).2.2)
              have h0 := HEV.out.2.2.2
              have hv := HEV.out.2.1
              refine ⟨?_, ?_⟩
              · unfold askB
                rw [eu, nb, decide_eq_true et, hv, ← hC]
                by_cases e : x.2.2.1 = s0.i
                · simp [e]
                · have h1 : ¬ s0.i = -1 := by omega
                  have h3 : ¬ s0.i = x.2.2.1 := fun h => e h.symm
                  simp [e, h1, h3]
              · unfold askD
                rw [eu]
                split
                · rename_i hc
                  rw [hc] at hC
                  have e : x.2.2.1 = ev.v := by rw [hv]; simpa using hC
                  rw [e]
                · rfl
            have HNEW := Lib.hid hnew
            clear hnew
            have HAK : Hid (∀ w2, Ext w6 w2 → Calls Try.prog 21 #[.agg (seatA s1), .int .i64 s1.t, .int .i64 x.2.2.1, .int .i64 1000000, .int .i64 1000000] w2 fun e w' => RetE w6 C ev w2 e w') := Lib.hid (fun w2 hw2 => (ask_any s1 ev w2 (HR6.out _ hw2) s1.t x.2.2.1 1000000 1000000).mono fun e w' h => by
              obtain ⟨⟨s', he, hs⟩, hx'⟩ := h
              rw [HNEW.out.1] at he hs
              exact ⟨⟨s', he, fun W hW => by have h : SeatR W s' (askD ev C s1.t x.2.2.1) := hs W ev (HR6.out W hW); rw [HNEW.out.2] at h; exact h⟩, hx'⟩)
            have hxx : Ext w6 w6.drew := Ext.drew (Ext.refl _)
            unfold seatA at HAK
            go_wp2
            go_region_held3 (fun w' => w'.cell? ⟨bq, 0, none⟩ = some (.int .i64 s1.i) ∧ w'.cell? ⟨bq, 1, none⟩ = some (.slice s1.P.p s1.P.n s1.P.c) ∧ w'.cell? ⟨bq, 2, none⟩ = some (.int .i64 s1.t) ∧ w'.cell? ⟨bq, 3, none⟩ = some (.int .i64 s1.v) ∧ w'.cell? ⟨bq, 4, none⟩ = some (.int .i64 s1.r) ∧ w'.cell? ⟨bq, 5, none⟩ = some (.slice s1.L.p s1.L.n s1.L.c) ∧ w'.cell? ⟨bq, 6, none⟩ = some (.int .i64 s1.c) ∧ w'.cell? ⟨bq, 7, none⟩ = some (.slice s1.V.p s1.V.n s1.V.c) ∧ w'.cell? ⟨bq, 8, none⟩ = some (.slice s1.N.p s1.N.n s1.N.c) ∧ w'.cell? ⟨bq, 9, none⟩ = some (.slice s1.M.p s1.M.n s1.M.c) ∧ w'.cell? ⟨b, off + k * 5 + 2, none⟩ = some (.int .u8 x.2.2.1)) ((refine HSS.out _ ?_; first | (with_reducible exact hxx) | (with_reducible exact Ext.trans hxx (Ext.alloc _ _)) | (exact ext_setRow (Ext.trans hxx (Ext.alloc _ _)) hxx.size _) | (exact ext_setRow hxx (Nat.le_refl _) _))) (first | (go_at_call 21; refine (HAK.out _ (by with_reducible exact hxx)).mono ?_; rintro e w3 ⟨⟨s2, rfl, hs1⟩, hx3⟩; have hyy : Ext w6 w3 := Ext.trans hxx hx3; have HFIN : ∃ V b13, ((w3.alloc (.cells #[.int .i64 0, .slice none 0 0, .int .i64 0, .int .i64 0, .int .i64 0, .slice none 0 0, .int .i64 0, .slice none 0 0, .slice none 0 0, .slice none 0 0] 25)).setRow w3.heap.size (seatA s2)) = V ∧ w3.heap.size = b13 ∧ Ext w6 V ∧ Hid (BoxAt V b13 s2) ∧ Hid (∀ W, Ext w6 W → SeatR W s2 ev) := ⟨_, _, rfl, rfl, Ext.trans hyy (box_new w3 s2).2, Lib.hid (box_new w3 s2).1, Lib.hid hs1⟩; have HZZ := Lib.hid (box_zero w3); replace hxx := hyy; clear hx3 hyy hs1) | (go_at_call 21; refine (HAK.out _ (by with_reducible exact Ext.trans hxx (Ext.alloc _ _))).mono ?_; rintro e w3 ⟨⟨s2, rfl, hs1⟩, hx3⟩; have HZZ : Hid (w3.heap[w6.heap.size]? = some (.cells #[.int .i64 0, .slice none 0 0, .int .i64 0, .int .i64 0, .int .i64 0, .slice none 0 0, .int .i64 0, .slice none 0 0, .slice none 0 0, .slice none 0 0] 25 (0, 0))) := Lib.hid (heap_ext (box_zero w6.drew) hx3); have hyy : Ext w6 w3 := Ext.trans (Ext.trans hxx (Ext.alloc _ _)) hx3; have HFIN : ∃ V b13, (w3.setRow w6.heap.size (seatA s2)) = V ∧ w6.heap.size = b13 ∧ Ext w6 V ∧ Hid (BoxAt V b13 s2) ∧ Hid (∀ W, Ext w6 W → SeatR W s2 ev) := ⟨_, _, rfl, rfl, ext_setRow hyy (Nat.le_refl _) _, Lib.hid (setRow_heap _ _ _ _ _ _ HZZ.out), Lib.hid hs1⟩; replace hxx := hyy; clear hx3 hyy hs1) | (refine upon_row HZZ.out rfl ?_))
            all_goals
              clear HZZ hxx HAK HSS
              obtain ⟨V2, b16, hV, hb13, hxV2, HQ2, HR2⟩ := HFIN
              rw [hV, hb13]
              unfold seatA
              clear hV hb13
              have HQ8 := Lib.hid (HQ6.out.ext hxV2)
              have zi : V2.cell? ⟨b16, 0, none⟩ = some (.int .i64 s2.i) := box_val HQ2.out 0 rfl
              have zP : V2.cell? ⟨b16, 1, none⟩ = some (.slice s2.P.p s2.P.n s2.P.c) := box_val HQ2.out 1 rfl
              have zt : V2.cell? ⟨b16, 2, none⟩ = some (.int .i64 s2.t) := box_val HQ2.out 2 rfl
              have zv : V2.cell? ⟨b16, 3, none⟩ = some (.int .i64 s2.v) := box_val HQ2.out 3 rfl
              have zr : V2.cell? ⟨b16, 4, none⟩ = some (.int .i64 s2.r) := box_val HQ2.out 4 rfl
              have zL : V2.cell? ⟨b16, 5, none⟩ = some (.slice s2.L.p s2.L.n s2.L.c) := box_val HQ2.out 5 rfl
              have zc : V2.cell? ⟨b16, 6, none⟩ = some (.int .i64 s2.c) := box_val HQ2.out 6 rfl
              have zV : V2.cell? ⟨b16, 7, none⟩ = some (.slice s2.V.p s2.V.n s2.V.c) := box_val HQ2.out 7 rfl
              have zN : V2.cell? ⟨b16, 8, none⟩ = some (.slice s2.N.p s2.N.n s2.N.c) := box_val HQ2.out 8 rfl
              have zM : V2.cell? ⟨b16, 9, none⟩ = some (.slice s2.M.p s2.M.n s2.M.c) := box_val HQ2.out 9 rfl
              have yi : V2.cell? ⟨bq, 0, none⟩ = some (.int .i64 s1.i) := box_val HQ8.out 0 rfl
              have yP : V2.cell? ⟨bq, 1, none⟩ = some (.slice s1.P.p s1.P.n s1.P.c) := box_val HQ8.out 1 rfl
              have yt : V2.cell? ⟨bq, 2, none⟩ = some (.int .i64 s1.t) := box_val HQ8.out 2 rfl
              have yv : V2.cell? ⟨bq, 3, none⟩ = some (.int .i64 s1.v) := box_val HQ8.out 3 rfl
              have yr : V2.cell? ⟨bq, 4, none⟩ = some (.int .i64 s1.r) := box_val HQ8.out 4 rfl
              have yL : V2.cell? ⟨bq, 5, none⟩ = some (.slice s1.L.p s1.L.n s1.L.c) := box_val HQ8.out 5 rfl
              have yc : V2.cell? ⟨bq, 6, none⟩ = some (.int .i64 s1.c) := box_val HQ8.out 6 rfl
              have yV : V2.cell? ⟨bq, 7, none⟩ = some (.slice s1.V.p s1.V.n s1.V.c) := box_val HQ8.out 7 rfl
              have yN : V2.cell? ⟨bq, 8, none⟩ = some (.slice s1.N.p s1.N.n s1.N.c) := box_val HQ8.out 8 rfl
              have yM : V2.cell? ⟨bq, 9, none⟩ = some (.slice s1.M.p s1.M.n s1.M.c) := box_val HQ8.out 9 rfl
              go_wp2_with fail
              refine (rsame_any s2 s1 ev ev _ (HR2.out _ hxV2) (HR6.out _ hxV2)).mono ?_
              rintro e w8 ⟨bb, rfl, hbb, hx8⟩
              obtain rfl : bb = true := hbb.2 rfl
              clear hbb zi zP zt zv zr zL zc zV zN zM yi yP yt yv yr yL yc yV yN yM HQ2 HR2
              have hx9 : Ext wr w8 := Ext.trans hx7 (Ext.trans hxV2 hx8)
              have e2 : w8.cell? ⟨b, off + k * 5 + 2, none⟩ = some (.int .u8 x.2.2.1) := hx9.cell (HCX.out 2 _ rfl)
              have e3 : w8.cell? ⟨w.heap.size, 0, none⟩ = some (.int .i64 s0.i) := box_val (HS5.out.ext (Ext.trans hx hx9)) 0 rfl
              have hCC : (C != C) = false := by cases C <;> rfl
              go_wp2
              go_quiet (fail)
              go_wp2
              go_roundw
              case rel => exact ⟨k + 1, by go_num, by omega, Ext.drewN (Ext.trans hx hx9) _⟩
              case measure => simp [intOf]; omega
        · obtain rfl : n = k := by omega
          go_wp2
          go_ret
          exact ⟨rfl, Ext.trans hxU.out hx⟩
end Go.Proofs.Ytmcenioblbcehaa.Lg
