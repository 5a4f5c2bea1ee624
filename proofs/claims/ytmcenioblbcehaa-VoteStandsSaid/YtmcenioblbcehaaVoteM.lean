/- Votes: the walk of VoteOnce. -/
import Derived.Test.YtmcenioblbcehaaVoteN
namespace Go.Proofs.Ytmcenioblbcehaa.Lg
open Go.RowKit Go.Proofs.Ytmcenioblbcehaa
set_option linter.unusedVariables false
theorem upon_row {o : Oper} {a : Act} {next : Act → World → Prop} {Q : Exit → Act → World → Prop} {w : World} {g : Nat} {s : SeatV} {old : Array Value} (hg : w.heap[g]? = some (.cells old 25 (0, 0))) (hs : old.size = 10) (h : next (a.put o.dst undef) (w.setRow g (seatA s))) :
    o.upon Try.prog a next Q (((storeCells ⟨g, 0, none⟩ (seatA s).toList).run Try.prog w).andThen fun _ w' => .ok .skip w') := by
  have h1 := run_storeCells_from (P := Try.prog) g 25 (seatA s).toList 0 old w hg (by rw [hs]; rfl) (by simp [seatA, Value.oneCell'])
  rw [h1]
  exact h
def OnceR (w : World) (B n : Nat) (s0 : SeatV) (d0 : St) (g i : Value) (wr : World) : Prop :=
  ∃ (k : Nat) (s : SeatV) (d : St), i = .int .i64 k ∧ k ≤ n ∧ g = .int .i64 s.v ∧ Ext w wr ∧ Hid (BoxAt wr B s) ∧ Hid (SeatK w (fun k => k = B) wr s d) ∧ Hid (BoxAt wr w.heap.size s0) ∧ Hid (d.i = d0.i ∧ d.c = d0.c ∧ 0 ≤ d.t ∧ d.t ≤ 1000000 + k)

set_option maxRecDepth 100000 in
set_option maxHeartbeats 16000000 in
theorem once_walk {p1 : Option Addr} {n c1 : Nat} {l : List Cl} (s0 : SeatV) (d0 : St) (w : World) (h : SeatR w s0 d0) (hl : LCall.Row w p1 n l) :
    Calls Try.prog 4 #[.agg (seatA s0), .slice p1 n c1] w fun e w' => e = .returned (.bool true) ∧ Ext w w' := by
  have H0 := Lib.hid h
  have HL := Lib.hid hl
  have hn := hl.2.1
  have BS : Hid (BoxAt (w.alloc (.cells #[.int .i64 s0.i, .slice s0.P.p s0.P.n s0.P.c, .int .i64 s0.t, .int .i64 s0.v, .int .i64 s0.r, .slice s0.L.p s0.L.n s0.L.c, .int .i64 s0.c, .slice s0.V.p s0.V.n s0.V.c, .slice s0.N.p s0.N.n s0.N.c, .slice s0.M.p s0.M.n s0.M.c] 25)) w.heap.size s0) := Lib.hid (by have := heap_alloc_new w (.cells #[.int .i64 s0.i, .slice s0.P.p s0.P.n s0.P.c, .int .i64 s0.t, .int .i64 s0.v, .int .i64 s0.r, .slice s0.L.p s0.L.n s0.L.c, .int .i64 s0.c, .slice s0.V.p s0.V.n s0.V.c, .slice s0.N.p s0.N.n s0.N.c, .slice s0.M.p s0.M.n s0.M.c] 25); simpa [BoxAt, seatA] using this)
  have hx : Ext w (w.alloc (.cells #[.int .i64 s0.i, .slice s0.P.p s0.P.n s0.P.c, .int .i64 s0.t, .int .i64 s0.v, .int .i64 s0.r, .slice s0.L.p s0.L.n s0.L.c, .int .i64 s0.c, .slice s0.V.p s0.V.n s0.V.c, .slice s0.N.p s0.N.n s0.N.c, .slice s0.M.p s0.M.n s0.M.c] 25)) := Ext.alloc _ _
  have h0R : ∀ W, Ext w W → SeatR W s0 d0 := fun W hW => H0.out.ext hW
  have HR0 := Lib.hid h0R
  clear h hl h0R
  unfold seatA
  go_enter Try.func4, Try.ntmps4
  go_wp2_with fail
  refine (head_any _).mono ?_
  rintro e w1 ⟨rfl, hx1⟩
  replace BS := Lib.hid (BS.out.ext hx1)
  replace hx := Ext.trans hx hx1
  replace H0 := Lib.hid (H0.out.ext hx)
  clear hx1
  have ci : w1.cell? ⟨w.heap.size, 0, none⟩ = some (.int .i64 s0.i) := box_val BS.out 0 rfl
  have cP : w1.cell? ⟨w.heap.size, 1, none⟩ = some (.slice s0.P.p s0.P.n s0.P.c) := box_val BS.out 1 rfl
  have ct : w1.cell? ⟨w.heap.size, 2, none⟩ = some (.int .i64 s0.t) := box_val BS.out 2 rfl
  have cv : w1.cell? ⟨w.heap.size, 3, none⟩ = some (.int .i64 s0.v) := box_val BS.out 3 rfl
  have cr : w1.cell? ⟨w.heap.size, 4, none⟩ = some (.int .i64 s0.r) := box_val BS.out 4 rfl
  have cL : w1.cell? ⟨w.heap.size, 5, none⟩ = some (.slice s0.L.p s0.L.n s0.L.c) := box_val BS.out 5 rfl
  have cc : w1.cell? ⟨w.heap.size, 6, none⟩ = some (.int .i64 s0.c) := box_val BS.out 6 rfl
  have cV : w1.cell? ⟨w.heap.size, 7, none⟩ = some (.slice s0.V.p s0.V.n s0.V.c) := box_val BS.out 7 rfl
  have cN : w1.cell? ⟨w.heap.size, 8, none⟩ = some (.slice s0.N.p s0.N.n s0.N.c) := box_val BS.out 8 rfl
  have cM : w1.cell? ⟨w.heap.size, 9, none⟩ = some (.slice s0.M.p s0.M.n s0.M.c) := box_val BS.out 9 rfl
  go_wp2_with fail
  refine (fits_seat s0 d0 _ H0.out).mono ?_
  rintro e w2 ⟨⟨q, rfl, hq⟩, hx1⟩
  replace BS := Lib.hid (BS.out.ext hx1)
  replace hx := Ext.trans hx hx1
  replace H0 := Lib.hid (H0.out.ext hx1)
  clear hx1 ci cP ct cv cr cL cc cV cN cM
  cases q
  · clear hq
    go_wp2
    go_ret
    exact ⟨rfl, hx⟩
  have HF := Lib.hid (hq rfl)
  clear hq
  by_cases h30 : (30 : Int) < (n : Int)
  · go_wp2
    go_ret
    exact ⟨rfl, hx⟩
  have ci : w2.cell? ⟨w.heap.size, 0, none⟩ = some (.int .i64 s0.i) := box_val BS.out 0 rfl
  have cP : w2.cell? ⟨w.heap.size, 1, none⟩ = some (.slice s0.P.p s0.P.n s0.P.c) := box_val BS.out 1 rfl
  have ct : w2.cell? ⟨w.heap.size, 2, none⟩ = some (.int .i64 s0.t) := box_val BS.out 2 rfl
  have cv : w2.cell? ⟨w.heap.size, 3, none⟩ = some (.int .i64 s0.v) := box_val BS.out 3 rfl
  have cr : w2.cell? ⟨w.heap.size, 4, none⟩ = some (.int .i64 s0.r) := box_val BS.out 4 rfl
  have cL : w2.cell? ⟨w.heap.size, 5, none⟩ = some (.slice s0.L.p s0.L.n s0.L.c) := box_val BS.out 5 rfl
  have cc : w2.cell? ⟨w.heap.size, 6, none⟩ = some (.int .i64 s0.c) := box_val BS.out 6 rfl
  have cV : w2.cell? ⟨w.heap.size, 7, none⟩ = some (.slice s0.V.p s0.V.n s0.V.c) := box_val BS.out 7 rfl
  have cN : w2.cell? ⟨w.heap.size, 8, none⟩ = some (.slice s0.N.p s0.N.n s0.N.c) := box_val BS.out 8 rfl
  have cM : w2.cell? ⟨w.heap.size, 9, none⟩ = some (.slice s0.M.p s0.M.n s0.M.c) := box_val BS.out 9 rfl
  have HBX : Hid (BoxAt ((w2.alloc (.cells #[.int .i64 0, .slice none 0 0, .int .i64 0, .int .i64 0, .int .i64 0, .slice none 0 0, .int .i64 0, .slice none 0 0, .slice none 0 0, .slice none 0 0] 25)).setRow w2.heap.size #[.int .i64 s0.i, .slice s0.P.p s0.P.n s0.P.c, .int .i64 s0.t, .int .i64 s0.v, .int .i64 s0.r, .slice s0.L.p s0.L.n s0.L.c, .int .i64 s0.c, .slice s0.V.p s0.V.n s0.V.c, .slice s0.N.p s0.N.n s0.N.c, .slice s0.M.p s0.M.n s0.M.c]) w2.heap.size s0 ∧ Ext w2 ((w2.alloc (.cells #[.int .i64 0, .slice none 0 0, .int .i64 0, .int .i64 0, .int .i64 0, .slice none 0 0, .int .i64 0, .slice none 0 0, .slice none 0 0, .slice none 0 0] 25)).setRow w2.heap.size #[.int .i64 s0.i, .slice s0.P.p s0.P.n s0.P.c, .int .i64 s0.t, .int .i64 s0.v, .int .i64 s0.r, .slice s0.L.p s0.L.n s0.L.c, .int .i64 s0.c, .slice s0.V.p s0.V.n s0.V.c, .slice s0.N.p s0.N.n s0.N.c, .slice s0.M.p s0.M.n s0.M.c])) := Lib.hid (box_new w2 s0)
  have HZ := Lib.hid (box_zero w2)
  have hBB : w.heap.size < w2.heap.size := BS.out.lt
  have HXX := Lib.hid hx
  have cv2 : ((w2.alloc (.cells #[.int .i64 0, .slice none 0 0, .int .i64 0, .int .i64 0, .int .i64 0, .slice none 0 0, .int .i64 0, .slice none 0 0, .slice none 0 0, .slice none 0 0] 25)).setRow w2.heap.size #[.int .i64 s0.i, .slice s0.P.p s0.P.n s0.P.c, .int .i64 s0.t, .int .i64 s0.v, .int .i64 s0.r, .slice s0.L.p s0.L.n s0.L.c, .int .i64 s0.c, .slice s0.V.p s0.V.n s0.V.c, .slice s0.N.p s0.N.n s0.N.c, .slice s0.M.p s0.M.n s0.M.c]).cell? ⟨w.heap.size, 3, none⟩ = some (.int .i64 s0.v) := box_val (BS.out.ext HBX.out.2) 3 rfl
  go_wp2_with ((with_reducible refine wpList_store_row (o := ⟨none, .store 25 (.tmp 7) (.tmp 23), _, _, _, _⟩) ?_ 25 (.tmp 7) (.tmp 23) ?_ w2.heap.size #[.int .i64 s0.i, .slice s0.P.p s0.P.n s0.P.c, .int .i64 s0.t, .int .i64 s0.v, .int .i64 s0.r, .slice s0.L.p s0.L.n s0.L.c, .int .i64 s0.c, .slice s0.V.p s0.V.n s0.V.c, .slice s0.N.p s0.N.n s0.N.c, .slice s0.M.p s0.M.n s0.M.c] ?_ ?_ 25 #[.int .i64 0, .slice none 0 0, .int .i64 0, .int .i64 0, .int .i64 0, .slice none 0 0, .int .i64 0, .slice none 0 0, .slice none 0 0, .slice none 0 0] ?_ ?_ ?_ ?_ ?_); (exact rfl); (exact rfl); (exact rfl); (exact rfl); (exact HZ.out); (exact info_seat); (exact rfl); (exact seat_one s0); generalize (w2.alloc (.cells #[.int .i64 0, .slice none 0 0, .int .i64 0, .int .i64 0, .int .i64 0, .slice none 0 0, .int .i64 0, .slice none 0 0, .slice none 0 0, .slice none 0 0] 25)).setRow w2.heap.size #[.int .i64 s0.i, .slice s0.P.p s0.P.n s0.P.c, .int .i64 s0.t, .int .i64 s0.v, .int .i64 s0.r, .slice s0.L.p s0.L.n s0.L.c, .int .i64 s0.c, .slice s0.V.p s0.V.n s0.V.c, .slice s0.N.p s0.N.n s0.N.c, .slice s0.M.p s0.M.n s0.M.c] = u2 at HBX cv2 ⊢; generalize w2.heap.size = B at HBX hBB ⊢)
  have B7 := Lib.hid HBX.out.1
  replace BS := Lib.hid (BS.out.ext HBX.out.2)
  have hxu : Ext w u2 := Ext.trans hx HBX.out.2
  have HKK : Hid (SeatK w (fun k => k = B) u2 s0 d0) := Lib.hid (fun W a => HR0.out W a.ext)
  clear HBX HZ ci cP ct cv cr cL cc cV cN cM cv2
  go_loopw [8, 9] (fun g i wr => OnceR w B n s0 d0 g i wr) (fun _ i _ => n - (intOf i).toNat)
  case atStart => exact ⟨0, s0, d0, rfl, by omega, rfl, hxu, B7, HKK, BS, Lib.hid ⟨rfl, rfl, HF.out.t0, by have := HF.out.t1; omega⟩⟩
  case round =>
    clear hxu B7 HKK BS H0
    obtain ⟨k, s, d, rfl, hk, rfl, hxr, HB, HK, HS, HD⟩ := hrel
    by_cases hlt : k < n
    · have hlt' : (k : Int) < (n : Int) := by omega
      have hlt0 : (0 : Int) ≤ (k : Int) := by omega
      obtain ⟨b, off, x, rfl, hy, hok, hcx⟩ := call_at (HL.out.ext hxr) hlt
      have HCX := Lib.hid hcx
      have HOK := Lib.hid hok
      obtain ⟨cd0, cd1, ct0, ct1, cw0, cw1, cl0, cl1, cm0, cm1⟩ := hok
      clear hy hcx
      have ci : wr.cell? ⟨B, 0, none⟩ = some (.int .i64 s.i) := box_val HB.out 0 rfl
      have cP : wr.cell? ⟨B, 1, none⟩ = some (.slice s.P.p s.P.n s.P.c) := box_val HB.out 1 rfl
      have ct : wr.cell? ⟨B, 2, none⟩ = some (.int .i64 s.t) := box_val HB.out 2 rfl
      have cv : wr.cell? ⟨B, 3, none⟩ = some (.int .i64 s.v) := box_val HB.out 3 rfl
      have cr : wr.cell? ⟨B, 4, none⟩ = some (.int .i64 s.r) := box_val HB.out 4 rfl
      have cL : wr.cell? ⟨B, 5, none⟩ = some (.slice s.L.p s.L.n s.L.c) := box_val HB.out 5 rfl
      have cc : wr.cell? ⟨B, 6, none⟩ = some (.int .i64 s.c) := box_val HB.out 6 rfl
      have cV : wr.cell? ⟨B, 7, none⟩ = some (.slice s.V.p s.V.n s.V.c) := box_val HB.out 7 rfl
      have cN : wr.cell? ⟨B, 8, none⟩ = some (.slice s.N.p s.N.n s.N.c) := box_val HB.out 8 rfl
      have cM : wr.cell? ⟨B, 9, none⟩ = some (.slice s.M.p s.M.n s.M.c) := box_val HB.out 9 rfl
      have e0 : wr.cell? ⟨b, off + k * 5, none⟩ = some (.int .u8 x.1) := HCX.out 0 _ rfl
      have e1 : wr.cell? ⟨b, off + k * 5 + 1, none⟩ = some (.int .u16 x.2.1) := HCX.out 1 _ rfl
      have e2 : wr.cell? ⟨b, off + k * 5 + 2, none⟩ = some (.int .u8 x.2.2.1) := HCX.out 2 _ rfl
      have e3 : wr.cell? ⟨b, off + k * 5 + 3, none⟩ = some (.int .u16 x.2.2.2.1) := HCX.out 3 _ rfl
      have e4 : wr.cell? ⟨b, off + k * 5 + 4, none⟩ = some (.int .u8 x.2.2.2.2) := HCX.out 4 _ rfl
      have HSS : Hid (∀ w', Ext wr w' → w'.cell? ⟨B, 0, none⟩ = some (.int .i64 s.i) ∧ w'.cell? ⟨B, 1, none⟩ = some (.slice s.P.p s.P.n s.P.c) ∧ w'.cell? ⟨B, 2, none⟩ = some (.int .i64 s.t) ∧ w'.cell? ⟨B, 3, none⟩ = some (.int .i64 s.v) ∧ w'.cell? ⟨B, 4, none⟩ = some (.int .i64 s.r) ∧ w'.cell? ⟨B, 5, none⟩ = some (.slice s.L.p s.L.n s.L.c) ∧ w'.cell? ⟨B, 6, none⟩ = some (.int .i64 s.c) ∧ w'.cell? ⟨B, 7, none⟩ = some (.slice s.V.p s.V.n s.V.c) ∧ w'.cell? ⟨B, 8, none⟩ = some (.slice s.N.p s.N.n s.N.c) ∧ w'.cell? ⟨B, 9, none⟩ = some (.slice s.M.p s.M.n s.M.c) ∧ w'.cell? ⟨b, off + k * 5, none⟩ = some (.int .u8 x.1) ∧ w'.cell? ⟨b, off + k * 5 + 1, none⟩ = some (.int .u16 x.2.1) ∧ w'.cell? ⟨b, off + k * 5 + 2, none⟩ = some (.int .u8 x.2.2.1) ∧ w'.cell? ⟨b, off + k * 5 + 3, none⟩ = some (.int .u16 x.2.2.2.1) ∧ w'.cell? ⟨b, off + k * 5 + 4, none⟩ = some (.int .u8 x.2.2.2.2)) := Lib.hid fun w' h => ⟨h.cell ci, h.cell cP, h.cell ct, h.cell cv, h.cell cr, h.cell cL, h.cell cc, h.cell cV, h.cell cN, h.cell cM, h.cell e0, h.cell e1, h.cell e2, h.cell e3, h.cell e4⟩
      clear ci cP ct cv cr cL cc cV cN cM e0 e1 e2 e3 e4
      have hb0 : 0 ≤ d.i ∧ d.i ≤ 1000000 := by rw [HD.out.1]; exact ⟨HF.out.i0, HF.out.i1⟩
      have ht0 : 0 ≤ d.t ∧ d.t ≤ 1000000000 := ⟨HD.out.2.2.1, by have := HD.out.2.2.2; omega⟩
      have HBL := Lib.hid HB.out.lt
      have HSF0 := Lib.hid (stepF d x HOK.out)
      obtain ⟨d1, hd1⟩ : ∃ d1, stepD d x = d1 := ⟨_, rfl⟩
      obtain ⟨b1, hb1⟩ : ∃ b1, stepB d x = b1 := ⟨_, rfl⟩
      have HST1 : Hid (∀ w2, Ext wr w2 → Calls Try.prog 11 #[.agg (seatA s), .agg (callA x)] w2 fun e w' => RetStep w (fun k => k = B) w2 b1 d1 e w') := Lib.hid (fun w2 hw2 => by
        have h := step_any w (fun k => k = B) s d x w2 (HK.out.ext hw2) (Ext.trans hxr hw2) (fun k hk => by subst hk; exact Nat.lt_of_lt_of_le HBL.out hw2.size) HOK.out hb0 ht0
        rw [hd1, hb1] at h; exact h)
      have HST2 : Hid (∀ w2, Ext wr w2 → wr.heap.size < w2.heap.size → Calls Try.prog 11 #[.agg (seatA s), .agg (callA x)] w2 fun e w' => RetStep w (fun k => k = B ∨ k = wr.heap.size) w2 b1 d1 e w') := Lib.hid (fun w2 hw2 hlt2 => by
        have h := step_any w (fun k => k = B ∨ k = wr.heap.size) s d x w2 ((HK.out.wide (fun k hk h => h.elim id (fun e => absurd hk (by rw [e]; exact Nat.lt_irrefl _)))).ext hw2) (Ext.trans hxr hw2) (fun k hk => hk.elim (fun e => by subst e; exact Nat.lt_of_lt_of_le HBL.out hw2.size) (fun e => by rw [e]; exact hlt2)) HOK.out hb0 ht0
        rw [hd1, hb1] at h; exact h)
      rw [hd1, hb1] at HSF0
      clear hd1 hb1
      have HI := Lib.hid hb0
      have HTT := Lib.hid ht0
      clear hb0 ht0
      have hxx : Ext wr wr.drew := Ext.drew (Ext.refl _)
      unfold seatA callA at HST1 HST2
      go_wp2
      go_region_held3 (fun w' => w'.cell? ⟨B, 0, none⟩ = some (.int .i64 s.i) ∧ w'.cell? ⟨B, 1, none⟩ = some (.slice s.P.p s.P.n s.P.c) ∧ w'.cell? ⟨B, 2, none⟩ = some (.int .i64 s.t) ∧ w'.cell? ⟨B, 3, none⟩ = some (.int .i64 s.v) ∧ w'.cell? ⟨B, 4, none⟩ = some (.int .i64 s.r) ∧ w'.cell? ⟨B, 5, none⟩ = some (.slice s.L.p s.L.n s.L.c) ∧ w'.cell? ⟨B, 6, none⟩ = some (.int .i64 s.c) ∧ w'.cell? ⟨B, 7, none⟩ = some (.slice s.V.p s.V.n s.V.c) ∧ w'.cell? ⟨B, 8, none⟩ = some (.slice s.N.p s.N.n s.N.c) ∧ w'.cell? ⟨B, 9, none⟩ = some (.slice s.M.p s.M.n s.M.c) ∧ w'.cell? ⟨b, off + k * 5, none⟩ = some (.int .u8 x.1) ∧ w'.cell? ⟨b, off + k * 5 + 1, none⟩ = some (.int .u16 x.2.1) ∧ w'.cell? ⟨b, off + k * 5 + 2, none⟩ = some (.int .u8 x.2.2.1) ∧ w'.cell? ⟨b, off + k * 5 + 3, none⟩ = some (.int .u16 x.2.2.2.1) ∧ w'.cell? ⟨b, off + k * 5 + 4, none⟩ = some (.int .u8 x.2.2.2.2)) ((refine HSS.out _ ?_; first | (with_reducible exact hxx) | (with_reducible exact Ext.trans hxx (Ext.alloc _ _)) | (exact ext_setRow (Ext.trans hxx (Ext.alloc _ _)) hxx.size _) | (exact ext_setRow hxx (Nat.le_refl _) _))) (first | (go_at_call 11; refine (HST1.out _ (by with_reducible exact hxx)).mono ?_; rintro e w3 ⟨⟨s1, rfl, hs1⟩, hx3⟩; have hyy : Ext wr w3 := Ext.trans hxx hx3; have HFIN : ∃ U bq, ((w3.alloc (.cells #[.int .i64 0, .slice none 0 0, .int .i64 0, .int .i64 0, .int .i64 0, .slice none 0 0, .int .i64 0, .slice none 0 0, .slice none 0 0, .slice none 0 0] 25)).setRow w3.heap.size (seatA s1)) = U ∧ w3.heap.size = bq ∧ Ext wr U ∧ Hid (BoxAt U bq s1) ∧ Hid (SeatK w (fun k => k = B) U s1 d1) := ⟨_, _, rfl, rfl, Ext.trans hyy (box_new w3 s1).2, Lib.hid (box_new w3 s1).1, Lib.hid (hs1.ext (box_new w3 s1).2)⟩; have HZZ := Lib.hid (box_zero w3); replace hxx := hyy; clear hx3 hyy hs1) | (go_at_call 11; refine (HST2.out _ (by with_reducible exact Ext.trans hxx (Ext.alloc _ _)) (by simp)).mono ?_; rintro e w3 ⟨⟨s1, rfl, hs1⟩, hx3⟩; have HZZ : Hid (w3.heap[wr.heap.size]? = some (.cells #[.int .i64 0, .slice none 0 0, .int .i64 0, .int .i64 0, .int .i64 0, .slice none 0 0, .int .i64 0, .slice none 0 0, .slice none 0 0, .slice none 0 0] 25 (0, 0))) := Lib.hid (heap_ext (box_zero wr.drew) hx3); have hyy : Ext wr w3 := Ext.trans (Ext.trans hxx (Ext.alloc _ _)) hx3; have HFIN : ∃ U bq, (w3.setRow wr.heap.size (seatA s1)) = U ∧ wr.heap.size = bq ∧ Ext wr U ∧ Hid (BoxAt U bq s1) ∧ Hid (SeatK w (fun k => k = B) U s1 d1) := ⟨_, _, rfl, rfl, ext_setRow hyy (Nat.le_refl _) _, Lib.hid (setRow_heap _ _ _ _ _ _ HZZ.out), Lib.hid ((hs1.setRow (.inr rfl) _).wide (fun k _ h => .inl h))⟩; replace hxx := hyy; clear hx3 hyy hs1) | (refine upon_row HZZ.out rfl ?_))
      all_goals
        clear HZZ hxx HST1 HST2
        obtain ⟨U, bq, hU, hbq, hxU, HQ, K1⟩ := HFIN
        rw [hU, hbq]
        unfold seatA
        clear hU hbq
        have HB5 := Lib.hid (HB.out.ext hxU)
        have HS5 := Lib.hid (HS.out.ext hxU)
        have h1 := K1.out.now (Ext.trans hxr hxU)
        have h0 := HK.out.now hxr
        have q1 : ¬ s1.t < s.t := by rw [h1.t, h0.t]; have := HSF0.out.le; omega
        have q2 : (s1.i != s0.i) = false := by rw [h1.i, HSF0.out.i, HD.out.1, (HR0.out w (Ext.refl _)).i]; simp
        have q3 : (s1.c != s0.c) = false := by rw [h1.c, HSF0.out.c, HD.out.2.1, (HR0.out w (Ext.refl _)).c]; simp
        have hst : 0 ≤ s.t := by rw [h0.t]; exact HTT.out.1
        have hst1 : s.t ≤ 1000000000 := by rw [h0.t]; exact HTT.out.2
        have et := h1.t
        have ev := h1.v
        have ft := h0.t
        have fv := h0.v
        have ei : s0.i = d.i := by rw [HD.out.1]; exact (HR0.out w (Ext.refl _)).i
        have HET := Lib.hid (And.intro et (And.intro ev (And.intro ft (And.intro fv ei))))
        clear et ev ft fv ei h1 h0 HK HB HS
        have hx7 : Ext w U := Ext.trans hxr hxU
        have HX8 : Hid (Ext w (U.setRow B #[.int .i64 s1.i, .slice s1.P.p s1.P.n s1.P.c, .int .i64 s1.t, .int .i64 s1.v, .int .i64 s1.r, .slice s1.L.p s1.L.n s1.L.c, .int .i64 s1.c, .slice s1.V.p s1.V.n s1.V.c, .slice s1.N.p s1.N.n s1.N.c, .slice s1.M.p s1.M.n s1.M.c])) := Lib.hid (ext_setRow hx7 (Nat.le_of_lt hBB) _)
        have HB8 : Hid (BoxAt (U.setRow B #[.int .i64 s1.i, .slice s1.P.p s1.P.n s1.P.c, .int .i64 s1.t, .int .i64 s1.v, .int .i64 s1.r, .slice s1.L.p s1.L.n s1.L.c, .int .i64 s1.c, .slice s1.V.p s1.V.n s1.V.c, .slice s1.N.p s1.N.n s1.N.c, .slice s1.M.p s1.M.n s1.M.c]) B s1) := Lib.hid (HB5.out.set)
        have HS8 : Hid (BoxAt (U.setRow B #[.int .i64 s1.i, .slice s1.P.p s1.P.n s1.P.c, .int .i64 s1.t, .int .i64 s1.v, .int .i64 s1.r, .slice s1.L.p s1.L.n s1.L.c, .int .i64 s1.c, .slice s1.V.p s1.V.n s1.V.c, .slice s1.N.p s1.N.n s1.N.c, .slice s1.M.p s1.M.n s1.M.c]) w.heap.size s0) := Lib.hid (HS5.out.setRow_ne (Nat.ne_of_lt hBB) _)
        have H18 : Hid (SeatK w (fun k => k = B) (U.setRow B #[.int .i64 s1.i, .slice s1.P.p s1.P.n s1.P.c, .int .i64 s1.t, .int .i64 s1.v, .int .i64 s1.r, .slice s1.L.p s1.L.n s1.L.c, .int .i64 s1.c, .slice s1.V.p s1.V.n s1.V.c, .slice s1.N.p s1.N.n s1.N.c, .slice s1.M.p s1.M.n s1.M.c]) s1 d1) := Lib.hid (K1.out.setRow rfl _)
        have zi : U.cell? ⟨bq, 0, none⟩ = some (.int .i64 s1.i) := box_val HQ.out 0 rfl
        have zP : U.cell? ⟨bq, 1, none⟩ = some (.slice s1.P.p s1.P.n s1.P.c) := box_val HQ.out 1 rfl
        have zt : U.cell? ⟨bq, 2, none⟩ = some (.int .i64 s1.t) := box_val HQ.out 2 rfl
        have zv : U.cell? ⟨bq, 3, none⟩ = some (.int .i64 s1.v) := box_val HQ.out 3 rfl
        have zr : U.cell? ⟨bq, 4, none⟩ = some (.int .i64 s1.r) := box_val HQ.out 4 rfl
        have zL : U.cell? ⟨bq, 5, none⟩ = some (.slice s1.L.p s1.L.n s1.L.c) := box_val HQ.out 5 rfl
        have zc : U.cell? ⟨bq, 6, none⟩ = some (.int .i64 s1.c) := box_val HQ.out 6 rfl
        have zV : U.cell? ⟨bq, 7, none⟩ = some (.slice s1.V.p s1.V.n s1.V.c) := box_val HQ.out 7 rfl
        have zN : U.cell? ⟨bq, 8, none⟩ = some (.slice s1.N.p s1.N.n s1.N.c) := box_val HQ.out 8 rfl
        have zM : U.cell? ⟨bq, 9, none⟩ = some (.slice s1.M.p s1.M.n s1.M.c) := box_val HQ.out 9 rfl
        have ct : U.cell? ⟨B, 2, none⟩ = some (.int .i64 s.t) := box_val HB5.out 2 rfl
        have g0 : U.cell? ⟨w.heap.size, 0, none⟩ = some (.int .i64 s0.i) := box_val HS5.out 0 rfl
        have g6 : U.cell? ⟨w.heap.size, 6, none⟩ = some (.int .i64 s0.c) := box_val HS5.out 6 rfl
        have e0 : U.cell? ⟨b, off + k * 5, none⟩ = some (.int .u8 x.1) := hxU.cell (HCX.out 0 _ rfl)
        have e2 : U.cell? ⟨b, off + k * 5 + 2, none⟩ = some (.int .u8 x.2.2.1) := hxU.cell (HCX.out 2 _ rfl)
        clear K1 HQ
        by_cases hk0 : x.1 % 4 = 0
        · obtain ⟨n1, n2, n3⟩ := HSF0.out.new hk0
          subst n3
          have q4 : s.t < s1.t := by rw [HET.out.1, n1, HET.out.2.2.1]; omega
          have q5 : (s1.t != s.t + 1) = false := by rw [HET.out.1, n1, HET.out.2.2.1]; simp
          have q6 : s1.v = s0.i := by rw [HET.out.2.1, n2, HET.out.2.2.2.2]
          have q6b : (s1.v != s0.i) = false := by simp [q6]
          have HQ6 := Lib.hid q6
          clear n1 n2 q6
          go_wp2_with ((with_reducible refine wpList_store_row (o := ⟨none, .store 25 (.tmp 7) (.tmp 110), _, _, _, _⟩) ?_ 25 (.tmp 7) (.tmp 110) ?_ B #[.int .i64 s1.i, .slice s1.P.p s1.P.n s1.P.c, .int .i64 s1.t, .int .i64 s1.v, .int .i64 s1.r, .slice s1.L.p s1.L.n s1.L.c, .int .i64 s1.c, .slice s1.V.p s1.V.n s1.V.c, .slice s1.N.p s1.N.n s1.N.c, .slice s1.M.p s1.M.n s1.M.c] ?_ ?_ 25 #[.int .i64 s.i, .slice s.P.p s.P.n s.P.c, .int .i64 s.t, .int .i64 s.v, .int .i64 s.r, .slice s.L.p s.L.n s.L.c, .int .i64 s.c, .slice s.V.p s.V.n s.V.c, .slice s.N.p s.N.n s.N.c, .slice s.M.p s.M.n s.M.c] ?_ ?_ ?_ ?_ ?_); (exact rfl); (exact rfl); (exact rfl); (exact rfl); (exact HB5.out); (exact info_seat); (exact rfl); (exact seat_one s1); generalize U.setRow B #[.int .i64 s1.i, .slice s1.P.p s1.P.n s1.P.c, .int .i64 s1.t, .int .i64 s1.v, .int .i64 s1.r, .slice s1.L.p s1.L.n s1.L.c, .int .i64 s1.c, .slice s1.V.p s1.V.n s1.V.c, .slice s1.N.p s1.N.n s1.N.c, .slice s1.M.p s1.M.n s1.M.c] = U8 at HX8 HB8 HS8 H18 ⊢)
          go_roundw
          case rel => exact ⟨k + 1, s1, d1, by go_num, by omega, by rw [HQ6.out], HX8.out, HB8, H18, HS8, Lib.hid ⟨by rw [HSF0.out.i]; exact HD.out.1, by rw [HSF0.out.c]; exact HD.out.2.1, by have h1 := HSF0.out.le; have h2 := HD.out.2.2.1; omega, by have h1 := HSF0.out.up; have h2 := HD.out.2.2.2; omega⟩⟩
          case measure => simp [intOf]; omega
        have HY := Lib.hid (HSF0.out.yes hk0)
        have HN := Lib.hid (HSF0.out.no hk0)
        by_cases q4 : s.t < s1.t
        · have HQ4 := Lib.hid q4
          have hup : d.t < d1.t := by rw [← HET.out.1, ← HET.out.2.2.1]; exact HQ4.out
          cases b1
          · have q7 : s1.v = -1 := by rw [HET.out.2.1]; exact (HN.out rfl).1 hup
            have q7b : (s1.v != -1) = false := by simp [q7]
            have HQ7 := Lib.hid q7
            clear q7 hup
            go_wp2_with ((with_reducible refine wpList_store_row (o := ⟨none, .store 25 (.tmp 7) (.tmp 110), _, _, _, _⟩) ?_ 25 (.tmp 7) (.tmp 110) ?_ B #[.int .i64 s1.i, .slice s1.P.p s1.P.n s1.P.c, .int .i64 s1.t, .int .i64 s1.v, .int .i64 s1.r, .slice s1.L.p s1.L.n s1.L.c, .int .i64 s1.c, .slice s1.V.p s1.V.n s1.V.c, .slice s1.N.p s1.N.n s1.N.c, .slice s1.M.p s1.M.n s1.M.c] ?_ ?_ 25 #[.int .i64 s.i, .slice s.P.p s.P.n s.P.c, .int .i64 s.t, .int .i64 s.v, .int .i64 s.r, .slice s.L.p s.L.n s.L.c, .int .i64 s.c, .slice s.V.p s.V.n s.V.c, .slice s.N.p s.N.n s.N.c, .slice s.M.p s.M.n s.M.c] ?_ ?_ ?_ ?_ ?_); (exact rfl); (exact rfl); (exact rfl); (exact rfl); (exact HB5.out); (exact info_seat); (exact rfl); (exact seat_one s1); generalize U.setRow B #[.int .i64 s1.i, .slice s1.P.p s1.P.n s1.P.c, .int .i64 s1.t, .int .i64 s1.v, .int .i64 s1.r, .slice s1.L.p s1.L.n s1.L.c, .int .i64 s1.c, .slice s1.V.p s1.V.n s1.V.c, .slice s1.N.p s1.N.n s1.N.c, .slice s1.M.p s1.M.n s1.M.c] = U8 at HX8 HB8 HS8 H18 ⊢)
            go_roundw
            case rel => exact ⟨k + 1, s1, d1, by go_num, by omega, by rw [HQ7.out], HX8.out, HB8, H18, HS8, Lib.hid ⟨by rw [HSF0.out.i]; exact HD.out.1, by rw [HSF0.out.c]; exact HD.out.2.1, by have h1 := HSF0.out.le; have h2 := HD.out.2.2.1; omega, by have h1 := HSF0.out.up; have h2 := HD.out.2.2.2; omega⟩⟩
            case measure => simp [intOf]; omega
          · have q8 : s1.v = x.2.2.1 := by rw [HET.out.2.1]; exact (HY.out rfl).1
            have q8b : (s1.v != x.2.2.1) = false := by simp [q8]
            have HQ8 := Lib.hid q8
            clear q8 hup
            go_wp2_with ((with_reducible refine wpList_store_row (o := ⟨none, .store 25 (.tmp 7) (.tmp 110), _, _, _, _⟩) ?_ 25 (.tmp 7) (.tmp 110) ?_ B #[.int .i64 s1.i, .slice s1.P.p s1.P.n s1.P.c, .int .i64 s1.t, .int .i64 s1.v, .int .i64 s1.r, .slice s1.L.p s1.L.n s1.L.c, .int .i64 s1.c, .slice s1.V.p s1.V.n s1.V.c, .slice s1.N.p s1.N.n s1.N.c, .slice s1.M.p s1.M.n s1.M.c] ?_ ?_ 25 #[.int .i64 s.i, .slice s.P.p s.P.n s.P.c, .int .i64 s.t, .int .i64 s.v, .int .i64 s.r, .slice s.L.p s.L.n s.L.c, .int .i64 s.c, .slice s.V.p s.V.n s.V.c, .slice s.N.p s.N.n s.N.c, .slice s.M.p s.M.n s.M.c] ?_ ?_ ?_ ?_ ?_); (exact rfl); (exact rfl); (exact rfl); (exact rfl); (exact HB5.out); (exact info_seat); (exact rfl); (exact seat_one s1); generalize U.setRow B #[.int .i64 s1.i, .slice s1.P.p s1.P.n s1.P.c, .int .i64 s1.t, .int .i64 s1.v, .int .i64 s1.r, .slice s1.L.p s1.L.n s1.L.c, .int .i64 s1.c, .slice s1.V.p s1.V.n s1.V.c, .slice s1.N.p s1.N.n s1.N.c, .slice s1.M.p s1.M.n s1.M.c] = U8 at HX8 HB8 HS8 H18 ⊢)
            go_roundw
            case rel => exact ⟨k + 1, s1, d1, by go_num, by omega, by rw [HQ8.out], HX8.out, HB8, H18, HS8, Lib.hid ⟨by rw [HSF0.out.i]; exact HD.out.1, by rw [HSF0.out.c]; exact HD.out.2.1, by have h1 := HSF0.out.le; have h2 := HD.out.2.2.1; omega, by have h1 := HSF0.out.up; have h2 := HD.out.2.2.2; omega⟩⟩
            case measure => simp [intOf]; omega
        · have HQ4 := Lib.hid q4
          have hup : ¬ d.t < d1.t := by rw [← HET.out.1, ← HET.out.2.2.1]; exact HQ4.out
          cases b1
          · have q7 : s1.v = s.v := by rw [HET.out.2.1, HET.out.2.2.2.1]; exact (HN.out rfl).2 hup
            have q7b : (s1.v != s.v) = false := by simp [q7]
            have HQ7 := Lib.hid q7
            clear q7 hup
            go_wp2_with ((with_reducible refine wpList_store_row (o := ⟨none, .store 25 (.tmp 7) (.tmp 110), _, _, _, _⟩) ?_ 25 (.tmp 7) (.tmp 110) ?_ B #[.int .i64 s1.i, .slice s1.P.p s1.P.n s1.P.c, .int .i64 s1.t, .int .i64 s1.v, .int .i64 s1.r, .slice s1.L.p s1.L.n s1.L.c, .int .i64 s1.c, .slice s1.V.p s1.V.n s1.V.c, .slice s1.N.p s1.N.n s1.N.c, .slice s1.M.p s1.M.n s1.M.c] ?_ ?_ 25 #[.int .i64 s.i, .slice s.P.p s.P.n s.P.c, .int .i64 s.t, .int .i64 s.v, .int .i64 s.r, .slice s.L.p s.L.n s.L.c, .int .i64 s.c, .slice s.V.p s.V.n s.V.c, .slice s.N.p s.N.n s.N.c, .slice s.M.p s.M.n s.M.c] ?_ ?_ ?_ ?_ ?_); (exact rfl); (exact rfl); (exact rfl); (exact rfl); (exact HB5.out); (exact info_seat); (exact rfl); (exact seat_one s1); generalize U.setRow B #[.int .i64 s1.i, .slice s1.P.p s1.P.n s1.P.c, .int .i64 s1.t, .int .i64 s1.v, .int .i64 s1.r, .slice s1.L.p s1.L.n s1.L.c, .int .i64 s1.c, .slice s1.V.p s1.V.n s1.V.c, .slice s1.N.p s1.N.n s1.N.c, .slice s1.M.p s1.M.n s1.M.c] = U8 at HX8 HB8 HS8 H18 ⊢)
            go_roundw
            case rel => exact ⟨k + 1, s1, d1, by go_num, by omega, by rw [HQ7.out], HX8.out, HB8, H18, HS8, Lib.hid ⟨by rw [HSF0.out.i]; exact HD.out.1, by rw [HSF0.out.c]; exact HD.out.2.1, by have h1 := HSF0.out.le; have h2 := HD.out.2.2.1; omega, by have h1 := HSF0.out.up; have h2 := HD.out.2.2.2; omega⟩⟩
            case measure => simp [intOf]; omega
          · have q8 : s1.v = x.2.2.1 := by rw [HET.out.2.1]; exact (HY.out rfl).1
            have q8b : (s1.v != x.2.2.1) = false := by simp [q8]
            have HQ8 := Lib.hid q8
            have HOR := Lib.hid ((HY.out rfl).2 hup)
            clear q8 hup
            by_cases q9 : s.v = -1
            · have q9b : (s.v != -1) = false := by simp [q9]
              have HQ9 := Lib.hid q9
              clear q9
              go_wp2_with ((with_reducible refine wpList_store_row (o := ⟨none, .store 25 (.tmp 7) (.tmp 110), _, _, _, _⟩) ?_ 25 (.tmp 7) (.tmp 110) ?_ B #[.int .i64 s1.i, .slice s1.P.p s1.P.n s1.P.c, .int .i64 s1.t, .int .i64 s1.v, .int .i64 s1.r, .slice s1.L.p s1.L.n s1.L.c, .int .i64 s1.c, .slice s1.V.p s1.V.n s1.V.c, .slice s1.N.p s1.N.n s1.N.c, .slice s1.M.p s1.M.n s1.M.c] ?_ ?_ 25 #[.int .i64 s.i, .slice s.P.p s.P.n s.P.c, .int .i64 s.t, .int .i64 s.v, .int .i64 s.r, .slice s.L.p s.L.n s.L.c, .int .i64 s.c, .slice s.V.p s.V.n s.V.c, .slice s.N.p s.N.n s.N.c, .slice s.M.p s.M.n s.M.c] ?_ ?_ ?_ ?_ ?_); (exact rfl); (exact rfl); (exact rfl); (exact rfl); (exact HB5.out); (exact info_seat); (exact rfl); (exact seat_one s1); generalize U.setRow B #[.int .i64 s1.i, .slice s1.P.p s1.P.n s1.P.c, .int .i64 s1.t, .int .i64 s1.v, .int .i64 s1.r, .slice s1.L.p s1.L.n s1.L.c, .int .i64 s1.c, .slice s1.V.p s1.V.n s1.V.c, .slice s1.N.p s1.N.n s1.N.c, .slice s1.M.p s1.M.n s1.M.c] = U8 at HX8 HB8 HS8 H18 ⊢)
              go_roundw
              case rel => exact ⟨k + 1, s1, d1, by go_num, by omega, by rw [HQ8.out], HX8.out, HB8, H18, HS8, Lib.hid ⟨by rw [HSF0.out.i]; exact HD.out.1, by rw [HSF0.out.c]; exact HD.out.2.1, by have h1 := HSF0.out.le; have h2 := HD.out.2.2.1; omega, by have h1 := HSF0.out.up; have h2 := HD.out.2.2.2; omega⟩⟩
              case measure => simp [intOf]; omega
            · have q10 : s.v = x.2.2.1 := by
                have h := HOR.out
                rw [← HET.out.2.2.2.1] at h
                exact h.elim (fun h => absurd h q9) id
              have q9b : (s.v != -1) = true := by simp [q9]
              have q10b : (s.v != x.2.2.1) = false := by simp [q10]
              have HQ9 := Lib.hid q9
              have HQ10 := Lib.hid q10
              clear q9 q10
              go_wp2_with ((with_reducible refine wpList_store_row (o := ⟨none, .store 25 (.tmp 7) (.tmp 110), _, _, _, _⟩) ?_ 25 (.tmp 7) (.tmp 110) ?_ B #[.int .i64 s1.i, .slice s1.P.p s1.P.n s1.P.c, .int .i64 s1.t, .int .i64 s1.v, .int .i64 s1.r, .slice s1.L.p s1.L.n s1.L.c, .int .i64 s1.c, .slice s1.V.p s1.V.n s1.V.c, .slice s1.N.p s1.N.n s1.N.c, .slice s1.M.p s1.M.n s1.M.c] ?_ ?_ 25 #[.int .i64 s.i, .slice s.P.p s.P.n s.P.c, .int .i64 s.t, .int .i64 s.v, .int .i64 s.r, .slice s.L.p s.L.n s.L.c, .int .i64 s.c, .slice s.V.p s.V.n s.V.c, .slice s.N.p s.N.n s.N.c, .slice s.M.p s.M.n s.M.c] ?_ ?_ ?_ ?_ ?_); (exact rfl); (exact rfl); (exact rfl); (exact rfl); (exact HB5.out); (exact info_seat); (exact rfl); (exact seat_one s1); generalize U.setRow B #[.int .i64 s1.i, .slice s1.P.p s1.P.n s1.P.c, .int .i64 s1.t, .int .i64 s1.v, .int .i64 s1.r, .slice s1.L.p s1.L.n s1.L.c, .int .i64 s1.c, .slice s1.V.p s1.V.n s1.V.c, .slice s1.N.p s1.N.n s1.N.c, .slice s1.M.p s1.M.n s1.M.c] = U8 at HX8 HB8 HS8 H18 ⊢)
              go_roundw
              case rel => exact ⟨k + 1, s1, d1, by go_num, by omega, by rw [HQ8.out], HX8.out, HB8, H18, HS8, Lib.hid ⟨by rw [HSF0.out.i]; exact HD.out.1, by rw [HSF0.out.c]; exact HD.out.2.1, by have h1 := HSF0.out.le; have h2 := HD.out.2.2.1; omega, by have h1 := HSF0.out.up; have h2 := HD.out.2.2.2; omega⟩⟩
              case measure => simp [intOf]; omega
    · obtain rfl : k = n := by omega
      clear HK HB HD
      go_wp2
      go_ret
      exact ⟨rfl, hxr⟩
end Go.Proofs.Ytmcenioblbcehaa.Lg
