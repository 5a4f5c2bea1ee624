/- Votes: Ask, whole; the reference's Ask. -/
import Derived.Test.YtmcenioblbcehaaVoteF
namespace Go.Proofs.Ytmcenioblbcehaa.Lg
open Go.RowKit Go.Proofs.Ytmcenioblbcehaa
set_option linter.unusedVariables false

theorem alloc_size (w : World) (o : Obj) : (w.alloc o).heap.size = w.heap.size + 1 := by simp
set_option maxRecDepth 100000 in
set_option maxHeartbeats 8000000 in
theorem ask_same (s : SeatV) (d : St) (w : World) (h : SeatR w s d) (term who last many : Int) (hlt : ¬ d.t < term) :
    Calls Try.prog 21 #[.agg (seatA s), .int .i64 term, .int .i64 who, .int .i64 last, .int .i64 many] w fun e w' => RetAsk w s (askB d term who last many) (fun d' => askD d' (askB d term who last many) term who) e w' := by
  have g1 : ¬ s.t < term := by rw [h.t]; exact hlt
  have g2 : Hid (¬ s.t < term) := Lib.hid g1
  have H := Lib.hid h
  have HD1 : Hid (upD d term = d) := Lib.hid (by unfold upD; rw [if_neg hlt])
  have HDL : Hid (d.L = d.L) := Lib.hid rfl
  have HA : Hid (AskW w ((((((w.alloc (.cells #[.int .i64 s.i, .slice s.P.p s.P.n s.P.c, .int .i64 s.t, .int .i64 s.v, .int .i64 s.r, .slice s.L.p s.L.n s.L.c, .int .i64 s.c, .slice s.V.p s.V.n s.V.c, .slice s.N.p s.N.n s.N.c, .slice s.M.p s.M.n s.M.c] 25)).alloc (.cells #[.int .i64 term] 3)).alloc (.cells #[.int .i64 who] 3)).alloc (.cells #[.int .i64 last] 3)).alloc (.cells #[.int .i64 many] 3)).alloc (.cells #[.int .i64 0, .slice none 0 0, .int .i64 0, .int .i64 0, .int .i64 0, .slice none 0 0, .int .i64 0, .slice none 0 0, .slice none 0 0, .slice none 0 0] 25)) s term who last many) := Lib.hid (AskW.start w s term who last many)
  have HTR : Hid (∀ (W : World) (d' : St), SeatR W s d' → SeatR W s (upD d' term)) := Lib.hid (fun W d' h => by
    have e0 : upD d' term = d' := by unfold upD; rw [if_neg (by rw [← h.t]; exact g2.out)]
    rw [e0]; exact h)
  have HSW : Hid (∀ W, Ext w W → SeatR W s d) := Lib.hid (fun W hW => H.out.ext hW)
  clear h hlt
  unfold seatA
  go_enter Try.func21, Try.ntmps21
  have HA1 := Lib.hid (HA.out.later (Ext.alloc ((((((w.alloc (.cells #[.int .i64 s.i, .slice s.P.p s.P.n s.P.c, .int .i64 s.t, .int .i64 s.v, .int .i64 s.r, .slice s.L.p s.L.n s.L.c, .int .i64 s.c, .slice s.V.p s.V.n s.V.c, .slice s.N.p s.N.n s.N.c, .slice s.M.p s.M.n s.M.c] 25)).alloc (.cells #[.int .i64 term] 3)).alloc (.cells #[.int .i64 who] 3)).alloc (.cells #[.int .i64 last] 3)).alloc (.cells #[.int .i64 many] 3)).alloc (.cells #[.int .i64 0, .slice none 0 0, .int .i64 0, .int .i64 0, .int .i64 0, .slice none 0 0, .int .i64 0, .slice none 0 0, .slice none 0 0, .slice none 0 0] 25)) (.cells #[.func (.func 31) #[] #[.pointer (some ⟨w.heap.size + 1, 0, none⟩), .pointer (some ⟨w.heap.size, 0, none⟩)], .func (.func 32) #[] #[.pointer (some ⟨w.heap.size, 0, none⟩), .pointer (some ⟨w.heap.size + 1 + 1, 0, none⟩)], .func (.func 33) #[] #[.pointer (some ⟨w.heap.size, 0, none⟩), .pointer (some ⟨w.heap.size + 1 + 1 + 1, 0, none⟩), .pointer (some ⟨w.heap.size + 1 + 1 + 1 + 1, 0, none⟩)]] 27)))
  have HS1 := Lib.hid (HSW.out _ (Ext.trans HA.out.ext (Ext.alloc ((((((w.alloc (.cells #[.int .i64 s.i, .slice s.P.p s.P.n s.P.c, .int .i64 s.t, .int .i64 s.v, .int .i64 s.r, .slice s.L.p s.L.n s.L.c, .int .i64 s.c, .slice s.V.p s.V.n s.V.c, .slice s.N.p s.N.n s.N.c, .slice s.M.p s.M.n s.M.c] 25)).alloc (.cells #[.int .i64 term] 3)).alloc (.cells #[.int .i64 who] 3)).alloc (.cells #[.int .i64 last] 3)).alloc (.cells #[.int .i64 many] 3)).alloc (.cells #[.int .i64 0, .slice none 0 0, .int .i64 0, .int .i64 0, .int .i64 0, .slice none 0 0, .int .i64 0, .slice none 0 0, .slice none 0 0, .slice none 0 0] 25)) (.cells #[.func (.func 31) #[] #[.pointer (some ⟨w.heap.size + 1, 0, none⟩), .pointer (some ⟨w.heap.size, 0, none⟩)], .func (.func 32) #[] #[.pointer (some ⟨w.heap.size, 0, none⟩), .pointer (some ⟨w.heap.size + 1 + 1, 0, none⟩)], .func (.func 33) #[] #[.pointer (some ⟨w.heap.size, 0, none⟩), .pointer (some ⟨w.heap.size + 1 + 1 + 1, 0, none⟩), .pointer (some ⟨w.heap.size + 1 + 1 + 1 + 1, 0, none⟩)]] 27))))
  have HFN := Lib.hid (fun i => cell_of_row _ _ i _ _ _ (heap_alloc_new ((((((w.alloc (.cells #[.int .i64 s.i, .slice s.P.p s.P.n s.P.c, .int .i64 s.t, .int .i64 s.v, .int .i64 s.r, .slice s.L.p s.L.n s.L.c, .int .i64 s.c, .slice s.V.p s.V.n s.V.c, .slice s.N.p s.N.n s.N.c, .slice s.M.p s.M.n s.M.c] 25)).alloc (.cells #[.int .i64 term] 3)).alloc (.cells #[.int .i64 who] 3)).alloc (.cells #[.int .i64 last] 3)).alloc (.cells #[.int .i64 many] 3)).alloc (.cells #[.int .i64 0, .slice none 0 0, .int .i64 0, .int .i64 0, .int .i64 0, .slice none 0 0, .int .i64 0, .slice none 0 0, .slice none 0 0, .slice none 0 0] 25)) (.cells #[.func (.func 31) #[] #[.pointer (some ⟨w.heap.size + 1, 0, none⟩), .pointer (some ⟨w.heap.size, 0, none⟩)], .func (.func 32) #[] #[.pointer (some ⟨w.heap.size, 0, none⟩), .pointer (some ⟨w.heap.size + 1 + 1, 0, none⟩)], .func (.func 33) #[] #[.pointer (some ⟨w.heap.size, 0, none⟩), .pointer (some ⟨w.heap.size + 1 + 1 + 1, 0, none⟩), .pointer (some ⟨w.heap.size + 1 + 1 + 1 + 1, 0, none⟩)]] 27)))
  have hsz : ((((((w.alloc (.cells #[.int .i64 s.i, .slice s.P.p s.P.n s.P.c, .int .i64 s.t, .int .i64 s.v, .int .i64 s.r, .slice s.L.p s.L.n s.L.c, .int .i64 s.c, .slice s.V.p s.V.n s.V.c, .slice s.N.p s.N.n s.N.c, .slice s.M.p s.M.n s.M.c] 25)).alloc (.cells #[.int .i64 term] 3)).alloc (.cells #[.int .i64 who] 3)).alloc (.cells #[.int .i64 last] 3)).alloc (.cells #[.int .i64 many] 3)).alloc (.cells #[.int .i64 0, .slice none 0 0, .int .i64 0, .int .i64 0, .int .i64 0, .slice none 0 0, .int .i64 0, .slice none 0 0, .slice none 0 0, .slice none 0 0] 25)).heap.size = w.heap.size + 1 + 1 + 1 + 1 + 1 + 1 := by rw [alloc_size, alloc_size, alloc_size, alloc_size, alloc_size, alloc_size]
  have hfn0 := HFN.out 0
  have hfn1 := HFN.out 1
  have hfn2 := HFN.out 2
  rw [hsz] at hfn0 hfn1 hfn2
  clear HFN hsz
  go_wp2
  generalize (((((((w.alloc (.cells #[.int .i64 s.i, .slice s.P.p s.P.n s.P.c, .int .i64 s.t, .int .i64 s.v, .int .i64 s.r, .slice s.L.p s.L.n s.L.c, .int .i64 s.c, .slice s.V.p s.V.n s.V.c, .slice s.N.p s.N.n s.N.c, .slice s.M.p s.M.n s.M.c] 25)).alloc (.cells #[.int .i64 term] 3)).alloc (.cells #[.int .i64 who] 3)).alloc (.cells #[.int .i64 last] 3)).alloc (.cells #[.int .i64 many] 3)).alloc (.cells #[.int .i64 0, .slice none 0 0, .int .i64 0, .int .i64 0, .int .i64 0, .slice none 0 0, .int .i64 0, .slice none 0 0, .slice none 0 0, .slice none 0 0] 25)).alloc (.cells #[.func (.func 31) #[] #[.pointer (some ⟨w.heap.size + 1, 0, none⟩), .pointer (some ⟨w.heap.size, 0, none⟩)], .func (.func 32) #[] #[.pointer (some ⟨w.heap.size, 0, none⟩), .pointer (some ⟨w.heap.size + 1 + 1, 0, none⟩)], .func (.func 33) #[] #[.pointer (some ⟨w.heap.size, 0, none⟩), .pointer (some ⟨w.heap.size + 1 + 1 + 1, 0, none⟩), .pointer (some ⟨w.heap.size + 1 + 1 + 1 + 1, 0, none⟩)]] 27)) = W1 at HA1 HS1 hfn0 hfn1 hfn2 ⊢
  have HSL : Hid (LEnt.Row W1 s.L.p s.L.n d.L) := Lib.hid HS1.out.L.1
  obtain ⟨b1, hb1⟩ : ∃ b1, (term == s.t) = b1 := ⟨_, rfl⟩
  obtain ⟨b2, hb2⟩ : ∃ b2, decide (s.v = -1 ∨ s.v = who) = b2 := ⟨_, rfl⟩
  obtain ⟨b3, hb3⟩ : ∃ b3, newerB d.L last many = b3 := ⟨_, rfl⟩
  have HB1 := Lib.hid hb1
  have HB2 := Lib.hid hb2
  have HB3 := Lib.hid hb3
  clear hb1 hb2 hb3
  have HASK : Hid (askB d term who last many = (b1 && (b2 && b3))) := Lib.hid (by
    unfold askB
    rw [HD1.out, ← HB1.out, ← HB2.out, ← HB3.out, HS1.out.t, HS1.out.v]
    all_goals first
      | rfl
      | (by_cases e : term = d.t <;> simp [e]))
  have ci : W1.cell? ⟨w.heap.size, 0, none⟩ = some (.int .i64 s.i) := cell_of_row _ _ 0 _ _ _ HA1.out.seat
  have cP : W1.cell? ⟨w.heap.size, 1, none⟩ = some (.slice s.P.p s.P.n s.P.c) := cell_of_row _ _ 1 _ _ _ HA1.out.seat
  have ct : W1.cell? ⟨w.heap.size, 2, none⟩ = some (.int .i64 s.t) := cell_of_row _ _ 2 _ _ _ HA1.out.seat
  have cv : W1.cell? ⟨w.heap.size, 3, none⟩ = some (.int .i64 s.v) := cell_of_row _ _ 3 _ _ _ HA1.out.seat
  have cr : W1.cell? ⟨w.heap.size, 4, none⟩ = some (.int .i64 s.r) := cell_of_row _ _ 4 _ _ _ HA1.out.seat
  have cL : W1.cell? ⟨w.heap.size, 5, none⟩ = some (.slice s.L.p s.L.n s.L.c) := cell_of_row _ _ 5 _ _ _ HA1.out.seat
  have cc : W1.cell? ⟨w.heap.size, 6, none⟩ = some (.int .i64 s.c) := cell_of_row _ _ 6 _ _ _ HA1.out.seat
  have cV : W1.cell? ⟨w.heap.size, 7, none⟩ = some (.slice s.V.p s.V.n s.V.c) := cell_of_row _ _ 7 _ _ _ HA1.out.seat
  have cN : W1.cell? ⟨w.heap.size, 8, none⟩ = some (.slice s.N.p s.N.n s.N.c) := cell_of_row _ _ 8 _ _ _ HA1.out.seat
  have cM : W1.cell? ⟨w.heap.size, 9, none⟩ = some (.slice s.M.p s.M.n s.M.c) := cell_of_row _ _ 9 _ _ _ HA1.out.seat
  have fv : W1.frozen? ⟨w.heap.size, 3, none⟩ = false := (cells_ext HA1.out.seat (Ext.refl _)).2 3
  have cw : W1.cell? ⟨w.heap.size + 1 + 1, 0, none⟩ = some (.int .i64 who) := cell_of_row _ _ 0 _ _ _ HA1.out.who
  go_loop [28] (fun i => StepsR b1 b2 b3 i) (fun i => 3 - (intOf i).toNat)
  case atStart => exact ⟨0, rfl, by omega, Lib.hid ⟨fun h => by omega, fun h => by omega, fun h => by omega⟩⟩
  case round =>
    obtain ⟨k, rfl, hk, HE⟩ := hrel
    have h3 : k = 0 ∨ k = 1 ∨ k = 2 ∨ k = 3 := by omega
    rcases h3 with rfl | rfl | rfl | rfl
    · go_wp2_with fail
      refine (q1_any w W1 s term who last many HA1.out).mono ?_
      rintro e w' ⟨rfl, rfl⟩
      rw [HB1.out]
      cases b1
      · clear HE
        have HRES := Lib.hid HA1.out.res
        go_wp2_with (((with_reducible refine wpList_store_row (o := ⟨none, .store 25 (.tmp 10) (.tmp 35), _, _, _, _⟩) ?_ 25 (.tmp 10) (.tmp 35) ?_ (w.heap.size + 1 + 1 + 1 + 1 + 1) #[.int .i64 s.i, .slice s.P.p s.P.n s.P.c, .int .i64 s.t, .int .i64 s.v, .int .i64 s.r, .slice s.L.p s.L.n s.L.c, .int .i64 s.c, .slice s.V.p s.V.n s.V.c, .slice s.N.p s.N.n s.N.c, .slice s.M.p s.M.n s.M.c] ?_ ?_ 25 #[.int .i64 0, .slice none 0 0, .int .i64 0, .int .i64 0, .int .i64 0, .slice none 0 0, .int .i64 0, .slice none 0 0, .slice none 0 0, .slice none 0 0] ?_ ?_ ?_ ?_ ?_); (exact rfl); (exact rfl); (exact rfl); (exact rfl); (exact HRES.out); (exact info_seat); (exact rfl); (exact seat_one s)))
        have HR2 := Lib.hid (setRow_heap _ _ _ #[.int .i64 s.i, .slice s.P.p s.P.n s.P.c, .int .i64 s.t, .int .i64 s.v, .int .i64 s.r, .slice s.L.p s.L.n s.L.c, .int .i64 s.c, .slice s.V.p s.V.n s.V.c, .slice s.N.p s.N.n s.N.c, .slice s.M.p s.M.n s.M.c] _ _ HRES.out)
        have X2 : Ext w (W1.setRow (w.heap.size + 1 + 1 + 1 + 1 + 1) #[.int .i64 s.i, .slice s.P.p s.P.n s.P.c, .int .i64 s.t, .int .i64 s.v, .int .i64 s.r, .slice s.L.p s.L.n s.L.c, .int .i64 s.c, .slice s.V.p s.V.n s.V.c, .slice s.N.p s.N.n s.N.c, .slice s.M.p s.M.n s.M.c]) := ext_setRow HA1.out.ext (by omega) _
        generalize W1.setRow (w.heap.size + 1 + 1 + 1 + 1 + 1) #[.int .i64 s.i, .slice s.P.p s.P.n s.P.c, .int .i64 s.t, .int .i64 s.v, .int .i64 s.r, .slice s.L.p s.L.n s.L.c, .int .i64 s.c, .slice s.V.p s.V.n s.V.c, .slice s.N.p s.N.n s.N.c, .slice s.M.p s.M.n s.M.c] = W2 at HR2 X2 ⊢
        have ri : W2.cell? ⟨w.heap.size + 1 + 1 + 1 + 1 + 1, 0, none⟩ = some (.int .i64 s.i) := cell_of_row _ _ 0 _ _ _ HR2.out
        have rP : W2.cell? ⟨w.heap.size + 1 + 1 + 1 + 1 + 1, 1, none⟩ = some (.slice s.P.p s.P.n s.P.c) := cell_of_row _ _ 1 _ _ _ HR2.out
        have rt : W2.cell? ⟨w.heap.size + 1 + 1 + 1 + 1 + 1, 2, none⟩ = some (.int .i64 s.t) := cell_of_row _ _ 2 _ _ _ HR2.out
        have rv : W2.cell? ⟨w.heap.size + 1 + 1 + 1 + 1 + 1, 3, none⟩ = some (.int .i64 s.v) := cell_of_row _ _ 3 _ _ _ HR2.out
        have rr : W2.cell? ⟨w.heap.size + 1 + 1 + 1 + 1 + 1, 4, none⟩ = some (.int .i64 s.r) := cell_of_row _ _ 4 _ _ _ HR2.out
        have rL : W2.cell? ⟨w.heap.size + 1 + 1 + 1 + 1 + 1, 5, none⟩ = some (.slice s.L.p s.L.n s.L.c) := cell_of_row _ _ 5 _ _ _ HR2.out
        have rc : W2.cell? ⟨w.heap.size + 1 + 1 + 1 + 1 + 1, 6, none⟩ = some (.int .i64 s.c) := cell_of_row _ _ 6 _ _ _ HR2.out
        have rV : W2.cell? ⟨w.heap.size + 1 + 1 + 1 + 1 + 1, 7, none⟩ = some (.slice s.V.p s.V.n s.V.c) := cell_of_row _ _ 7 _ _ _ HR2.out
        have rN : W2.cell? ⟨w.heap.size + 1 + 1 + 1 + 1 + 1, 8, none⟩ = some (.slice s.N.p s.N.n s.N.c) := cell_of_row _ _ 8 _ _ _ HR2.out
        have rM : W2.cell? ⟨w.heap.size + 1 + 1 + 1 + 1 + 1, 9, none⟩ = some (.slice s.M.p s.M.n s.M.c) := cell_of_row _ _ 9 _ _ _ HR2.out
        go_wp2
        have HBF : Hid (askB d term who last many = false) := Lib.hid (by rw [HASK.out]; simp)
        rw [HBF.out]
        refine bodyPost_ret (v := .tuple #[.agg (seatA s), .bool false]) (by simp [results, Try.results21, go_sem, seatA, ri, rP, rt, rv, rr, rL, rc, rV, rN, rM]) rfl ⟨⟨s, rfl, fun W d' h => ?_⟩, X2⟩
        have h2 := HTR.out W d' h
        have e0 : askD d' false term who = upD d' term := rfl
        show SeatR W s (askD d' false term who)
        rw [e0]; exact h2
      · go_wp2
        go_round
        case rel => exact ⟨1, rfl, by omega, Lib.hid ⟨fun _ => rfl, fun h => by omega, fun h => by omega⟩⟩
        case measure => simp [intOf]
    · go_wp2_with fail
      refine (q2_any w W1 s term who last many HA1.out).mono ?_
      rintro e w' ⟨rfl, rfl⟩
      rw [HB2.out]
      cases b2
      · clear HE
        have HRES := Lib.hid HA1.out.res
        go_wp2_with (((with_reducible refine wpList_store_row (o := ⟨none, .store 25 (.tmp 10) (.tmp 35), _, _, _, _⟩) ?_ 25 (.tmp 10) (.tmp 35) ?_ (w.heap.size + 1 + 1 + 1 + 1 + 1) #[.int .i64 s.i, .slice s.P.p s.P.n s.P.c, .int .i64 s.t, .int .i64 s.v, .int .i64 s.r, .slice s.L.p s.L.n s.L.c, .int .i64 s.c, .slice s.V.p s.V.n s.V.c, .slice s.N.p s.N.n s.N.c, .slice s.M.p s.M.n s.M.c] ?_ ?_ 25 #[.int .i64 0, .slice none 0 0, .int .i64 0, .int .i64 0, .int .i64 0, .slice none 0 0, .int .i64 0, .slice none 0 0, .slice none 0 0, .slice none 0 0] ?_ ?_ ?_ ?_ ?_); (exact rfl); (exact rfl); (exact rfl); (exact rfl); (exact HRES.out); (exact info_seat); (exact rfl); (exact seat_one s)))
        have HR2 := Lib.hid (setRow_heap _ _ _ #[.int .i64 s.i, .slice s.P.p s.P.n s.P.c, .int .i64 s.t, .int .i64 s.v, .int .i64 s.r, .slice s.L.p s.L.n s.L.c, .int .i64 s.c, .slice s.V.p s.V.n s.V.c, .slice s.N.p s.N.n s.N.c, .slice s.M.p s.M.n s.M.c] _ _ HRES.out)
        have X2 : Ext w (W1.setRow (w.heap.size + 1 + 1 + 1 + 1 + 1) #[.int .i64 s.i, .slice s.P.p s.P.n s.P.c, .int .i64 s.t, .int .i64 s.v, .int .i64 s.r, .slice s.L.p s.L.n s.L.c, .int .i64 s.c, .slice s.V.p s.V.n s.V.c, .slice s.N.p s.N.n s.N.c, .slice s.M.p s.M.n s.M.c]) := ext_setRow HA1.out.ext (by omega) _
        generalize W1.setRow (w.heap.size + 1 + 1 + 1 + 1 + 1) #[.int .i64 s.i, .slice s.P.p s.P.n s.P.c, .int .i64 s.t, .int .i64 s.v, .int .i64 s.r, .slice s.L.p s.L.n s.L.c, .int .i64 s.c, .slice s.V.p s.V.n s.V.c, .slice s.N.p s.N.n s.N.c, .slice s.M.p s.M.n s.M.c] = W2 at HR2 X2 ⊢
        have ri : W2.cell? ⟨w.heap.size + 1 + 1 + 1 + 1 + 1, 0, none⟩ = some (.int .i64 s.i) := cell_of_row _ _ 0 _ _ _ HR2.out
        have rP : W2.cell? ⟨w.heap.size + 1 + 1 + 1 + 1 + 1, 1, none⟩ = some (.slice s.P.p s.P.n s.P.c) := cell_of_row _ _ 1 _ _ _ HR2.out
        have rt : W2.cell? ⟨w.heap.size + 1 + 1 + 1 + 1 + 1, 2, none⟩ = some (.int .i64 s.t) := cell_of_row _ _ 2 _ _ _ HR2.out
        have rv : W2.cell? ⟨w.heap.size + 1 + 1 + 1 + 1 + 1, 3, none⟩ = some (.int .i64 s.v) := cell_of_row _ _ 3 _ _ _ HR2.out
        have rr : W2.cell? ⟨w.heap.size + 1 + 1 + 1 + 1 + 1, 4, none⟩ = some (.int .i64 s.r) := cell_of_row _ _ 4 _ _ _ HR2.out
        have rL : W2.cell? ⟨w.heap.size + 1 + 1 + 1 + 1 + 1, 5, none⟩ = some (.slice s.L.p s.L.n s.L.c) := cell_of_row _ _ 5 _ _ _ HR2.out
        have rc : W2.cell? ⟨w.heap.size + 1 + 1 + 1 + 1 + 1, 6, none⟩ = some (.int .i64 s.c) := cell_of_row _ _ 6 _ _ _ HR2.out
        have rV : W2.cell? ⟨w.heap.size + 1 + 1 + 1 + 1 + 1, 7, none⟩ = some (.slice s.V.p s.V.n s.V.c) := cell_of_row _ _ 7 _ _ _ HR2.out
        have rN : W2.cell? ⟨w.heap.size + 1 + 1 + 1 + 1 + 1, 8, none⟩ = some (.slice s.N.p s.N.n s.N.c) := cell_of_row _ _ 8 _ _ _ HR2.out
        have rM : W2.cell? ⟨w.heap.size + 1 + 1 + 1 + 1 + 1, 9, none⟩ = some (.slice s.M.p s.M.n s.M.c) := cell_of_row _ _ 9 _ _ _ HR2.out
        go_wp2
        have HBF : Hid (askB d term who last many = false) := Lib.hid (by rw [HASK.out]; simp)
        rw [HBF.out]
        refine bodyPost_ret (v := .tuple #[.agg (seatA s), .bool false]) (by simp [results, Try.results21, go_sem, seatA, ri, rP, rt, rv, rr, rL, rc, rV, rN, rM]) rfl ⟨⟨s, rfl, fun W d' h => ?_⟩, X2⟩
        have h2 := HTR.out W d' h
        have e0 : askD d' false term who = upD d' term := rfl
        show SeatR W s (askD d' false term who)
        rw [e0]; exact h2
      · go_wp2
        go_round
        case rel => exact ⟨2, rfl, by omega, Lib.hid ⟨fun _ => HE.out.1 (by omega), fun _ => rfl, fun h => by omega⟩⟩
        case measure => simp [intOf]
    · go_wp2_with fail
      refine (q3_any w W1 s d.L term who last many HA1.out HSL.out).mono ?_
      rintro e w' ⟨rfl, rfl⟩
      rw [HB3.out]
      cases b3
      · clear HE
        have HRES := Lib.hid HA1.out.res
        go_wp2_with (((with_reducible refine wpList_store_row (o := ⟨none, .store 25 (.tmp 10) (.tmp 35), _, _, _, _⟩) ?_ 25 (.tmp 10) (.tmp 35) ?_ (w.heap.size + 1 + 1 + 1 + 1 + 1) #[.int .i64 s.i, .slice s.P.p s.P.n s.P.c, .int .i64 s.t, .int .i64 s.v, .int .i64 s.r, .slice s.L.p s.L.n s.L.c, .int .i64 s.c, .slice s.V.p s.V.n s.V.c, .slice s.N.p s.N.n s.N.c, .slice s.M.p s.M.n s.M.c] ?_ ?_ 25 #[.int .i64 0, .slice none 0 0, .int .i64 0, .int .i64 0, .int .i64 0, .slice none 0 0, .int .i64 0, .slice none 0 0, .slice none 0 0, .slice none 0 0] ?_ ?_ ?_ ?_ ?_); (exact rfl); (exact rfl); (exact rfl); (exact rfl); (exact HRES.out); (exact info_seat); (exact rfl); (exact seat_one s)))
        have HR2 := Lib.hid (setRow_heap _ _ _ #[.int .i64 s.i, .slice s.P.p s.P.n s.P.c, .int .i64 s.t, .int .i64 s.v, .int .i64 s.r, .slice s.L.p s.L.n s.L.c, .int .i64 s.c, .slice s.V.p s.V.n s.V.c, .slice s.N.p s.N.n s.N.c, .slice s.M.p s.M.n s.M.c] _ _ HRES.out)
        have X2 : Ext w (W1.setRow (w.heap.size + 1 + 1 + 1 + 1 + 1) #[.int .i64 s.i, .slice s.P.p s.P.n s.P.c, .int .i64 s.t, .int .i64 s.v, .int .i64 s.r, .slice s.L.p s.L.n s.L.c, .int .i64 s.c, .slice s.V.p s.V.n s.V.c, .slice s.N.p s.N.n s.N.c, .slice s.M.p s.M.n s.M.c]) := ext_setRow HA1.out.ext (by omega) _
        generalize W1.setRow (w.heap.size + 1 + 1 + 1 + 1 + 1) #[.int .i64 s.i, .slice s.P.p s.P.n s.P.c, .int .i64 s.t, .int .i64 s.v, .int .i64 s.r, .slice s.L.p s.L.n s.L.c, .int .i64 s.c, .slice s.V.p s.V.n s.V.c, .slice s.N.p s.N.n s.N.c, .slice s.M.p s.M.n s.M.c] = W2 at HR2 X2 ⊢
        have ri : W2.cell? ⟨w.heap.size + 1 + 1 + 1 + 1 + 1, 0, none⟩ = some (.int .i64 s.i) := cell_of_row _ _ 0 _ _ _ HR2.out
        have rP : W2.cell? ⟨w.heap.size + 1 + 1 + 1 + 1 + 1, 1, none⟩ = some (.slice s.P.p s.P.n s.P.c) := cell_of_row _ _ 1 _ _ _ HR2.out
        have rt : W2.cell? ⟨w.heap.size + 1 + 1 + 1 + 1 + 1, 2, none⟩ = some (.int .i64 s.t) := cell_of_row _ _ 2 _ _ _ HR2.out
        have rv : W2.cell? ⟨w.heap.size + 1 + 1 + 1 + 1 + 1, 3, none⟩ = some (.int .i64 s.v) := cell_of_row _ _ 3 _ _ _ HR2.out
        have rr : W2.cell? ⟨w.heap.size + 1 + 1 + 1 + 1 + 1, 4, none⟩ = some (.int .i64 s.r) := cell_of_row _ _ 4 _ _ _ HR2.out
        have rL : W2.cell? ⟨w.heap.size + 1 + 1 + 1 + 1 + 1, 5, none⟩ = some (.slice s.L.p s.L.n s.L.c) := cell_of_row _ _ 5 _ _ _ HR2.out
        have rc : W2.cell? ⟨w.heap.size + 1 + 1 + 1 + 1 + 1, 6, none⟩ = some (.int .i64 s.c) := cell_of_row _ _ 6 _ _ _ HR2.out
        have rV : W2.cell? ⟨w.heap.size + 1 + 1 + 1 + 1 + 1, 7, none⟩ = some (.slice s.V.p s.V.n s.V.c) := cell_of_row _ _ 7 _ _ _ HR2.out
        have rN : W2.cell? ⟨w.heap.size + 1 + 1 + 1 + 1 + 1, 8, none⟩ = some (.slice s.N.p s.N.n s.N.c) := cell_of_row _ _ 8 _ _ _ HR2.out
        have rM : W2.cell? ⟨w.heap.size + 1 + 1 + 1 + 1 + 1, 9, none⟩ = some (.slice s.M.p s.M.n s.M.c) := cell_of_row _ _ 9 _ _ _ HR2.out
        go_wp2
        have HBF : Hid (askB d term who last many = false) := Lib.hid (by rw [HASK.out]; simp)
        rw [HBF.out]
        refine bodyPost_ret (v := .tuple #[.agg (seatA s), .bool false]) (by simp [results, Try.results21, go_sem, seatA, ri, rP, rt, rv, rr, rL, rc, rV, rN, rM]) rfl ⟨⟨s, rfl, fun W d' h => ?_⟩, X2⟩
        have h2 := HTR.out W d' h
        have e0 : askD d' false term who = upD d' term := rfl
        show SeatR W s (askD d' false term who)
        rw [e0]; exact h2
      · go_wp2
        go_round
        case rel => exact ⟨3, rfl, by omega, Lib.hid ⟨fun _ => HE.out.1 (by omega), fun _ => HE.out.2.1 (by omega), fun _ => rfl⟩⟩
        case measure => simp [intOf]
    · have HRES : Hid ((W1.setCell ⟨w.heap.size, 3, none⟩ (.int .i64 who)).heap[w.heap.size + 1 + 1 + 1 + 1 + 1]? = some (.cells #[.int .i64 0, .slice none 0 0, .int .i64 0, .int .i64 0, .int .i64 0, .slice none 0 0, .int .i64 0, .slice none 0 0, .slice none 0 0, .slice none 0 0] 25 (0, 0))) := Lib.hid (by rw [Below.heap_setCell _ _ _ _ (by simp; omega)]; exact HA1.out.res)
      go_wp2_with (((with_reducible refine wpList_store_row (o := ⟨none, .store 25 (.tmp 10) (.tmp 39), _, _, _, _⟩) ?_ 25 (.tmp 10) (.tmp 39) ?_ (w.heap.size + 1 + 1 + 1 + 1 + 1) #[.int .i64 s.i, .slice s.P.p s.P.n s.P.c, .int .i64 s.t, .int .i64 who, .int .i64 s.r, .slice s.L.p s.L.n s.L.c, .int .i64 s.c, .slice s.V.p s.V.n s.V.c, .slice s.N.p s.N.n s.N.c, .slice s.M.p s.M.n s.M.c] ?_ ?_ 25 #[.int .i64 0, .slice none 0 0, .int .i64 0, .int .i64 0, .int .i64 0, .slice none 0 0, .int .i64 0, .slice none 0 0, .slice none 0 0, .slice none 0 0] ?_ ?_ ?_ ?_ ?_); (exact rfl); (exact rfl); (exact rfl); (exact rfl); (exact HRES.out); (exact info_seat); (exact rfl); (exact seat_one { s with v := who })))
      have HR2 := Lib.hid (setRow_heap _ _ _ #[.int .i64 s.i, .slice s.P.p s.P.n s.P.c, .int .i64 s.t, .int .i64 who, .int .i64 s.r, .slice s.L.p s.L.n s.L.c, .int .i64 s.c, .slice s.V.p s.V.n s.V.c, .slice s.N.p s.N.n s.N.c, .slice s.M.p s.M.n s.M.c] _ _ HRES.out)
      have X2 : Ext w ((W1.setCell ⟨w.heap.size, 3, none⟩ (.int .i64 who)).setRow (w.heap.size + 1 + 1 + 1 + 1 + 1) #[.int .i64 s.i, .slice s.P.p s.P.n s.P.c, .int .i64 s.t, .int .i64 who, .int .i64 s.r, .slice s.L.p s.L.n s.L.c, .int .i64 s.c, .slice s.V.p s.V.n s.V.c, .slice s.N.p s.N.n s.N.c, .slice s.M.p s.M.n s.M.c]) := ext_setRow (Below.setCell HA1.out.ext (p := ⟨w.heap.size, 3, none⟩) (Nat.le_refl _) _) (by omega) _
      generalize (W1.setCell ⟨w.heap.size, 3, none⟩ (.int .i64 who)).setRow (w.heap.size + 1 + 1 + 1 + 1 + 1) #[.int .i64 s.i, .slice s.P.p s.P.n s.P.c, .int .i64 s.t, .int .i64 who, .int .i64 s.r, .slice s.L.p s.L.n s.L.c, .int .i64 s.c, .slice s.V.p s.V.n s.V.c, .slice s.N.p s.N.n s.N.c, .slice s.M.p s.M.n s.M.c] = W2 at HR2 X2 ⊢
      have ri : W2.cell? ⟨w.heap.size + 1 + 1 + 1 + 1 + 1, 0, none⟩ = some (.int .i64 s.i) := cell_of_row _ _ 0 _ _ _ HR2.out
      have rP : W2.cell? ⟨w.heap.size + 1 + 1 + 1 + 1 + 1, 1, none⟩ = some (.slice s.P.p s.P.n s.P.c) := cell_of_row _ _ 1 _ _ _ HR2.out
      have rt : W2.cell? ⟨w.heap.size + 1 + 1 + 1 + 1 + 1, 2, none⟩ = some (.int .i64 s.t) := cell_of_row _ _ 2 _ _ _ HR2.out
      have rv : W2.cell? ⟨w.heap.size + 1 + 1 + 1 + 1 + 1, 3, none⟩ = some (.int .i64 who) := cell_of_row _ _ 3 _ _ _ HR2.out
      have rr : W2.cell? ⟨w.heap.size + 1 + 1 + 1 + 1 + 1, 4, none⟩ = some (.int .i64 s.r) := cell_of_row _ _ 4 _ _ _ HR2.out
      have rL : W2.cell? ⟨w.heap.size + 1 + 1 + 1 + 1 + 1, 5, none⟩ = some (.slice s.L.p s.L.n s.L.c) := cell_of_row _ _ 5 _ _ _ HR2.out
      have rc : W2.cell? ⟨w.heap.size + 1 + 1 + 1 + 1 + 1, 6, none⟩ = some (.int .i64 s.c) := cell_of_row _ _ 6 _ _ _ HR2.out
      have rV : W2.cell? ⟨w.heap.size + 1 + 1 + 1 + 1 + 1, 7, none⟩ = some (.slice s.V.p s.V.n s.V.c) := cell_of_row _ _ 7 _ _ _ HR2.out
      have rN : W2.cell? ⟨w.heap.size + 1 + 1 + 1 + 1 + 1, 8, none⟩ = some (.slice s.N.p s.N.n s.N.c) := cell_of_row _ _ 8 _ _ _ HR2.out
      have rM : W2.cell? ⟨w.heap.size + 1 + 1 + 1 + 1 + 1, 9, none⟩ = some (.slice s.M.p s.M.n s.M.c) := cell_of_row _ _ 9 _ _ _ HR2.out
      go_wp2
      have HBF : Hid (askB d term who last many = true) := Lib.hid (by rw [HASK.out, HE.out.1 (by omega), HE.out.2.1 (by omega), HE.out.2.2 (by omega)]; rfl)
      rw [HBF.out]
      refine bodyPost_ret (v := .tuple #[.agg (seatA { s with v := who }), .bool true]) (by simp [results, Try.results21, go_sem, seatA, ri, rP, rt, rv, rr, rL, rc, rV, rN, rM]) rfl ⟨⟨_, rfl, fun W d' h => ?_⟩, X2⟩
      have h2 := HTR.out W d' h
      have e0 : askD d' true term who = { upD d' term with v := who } := rfl
      show SeatR W { s with v := who } (askD d' true term who)
      rw [e0]; exact ⟨h2.i, h2.t, rfl, h2.r, h2.c, h2.P, h2.L, h2.V, h2.N, h2.M⟩

theorem ask_any (s : SeatV) (d : St) (w : World) (h : SeatR w s d) (term who last many : Int) :
    Calls Try.prog 21 #[.agg (seatA s), .int .i64 term, .int .i64 who, .int .i64 last, .int .i64 many] w fun e w' => RetAsk w s (askB d term who last many) (fun d' => askD d' (askB d term who last many) term who) e w' := by
  by_cases hlt : d.t < term
  · exact ask_up s d w h term who last many hlt
  · exact ask_same s d w h term who last many hlt

/-- the reference's world: what was given, the answer's box, the seat that becomes -/
structure RAskW (w W : World) (s s1 : SeatV) : Prop where
  seat : W.heap[w.heap.size]? = some (.cells (seatA s) 25 (0, 0))
  res : W.heap[w.heap.size + 1]? = some (.cells #[.int .i64 0, .slice none 0 0, .int .i64 0, .int .i64 0, .int .i64 0, .slice none 0 0, .int .i64 0, .slice none 0 0, .slice none 0 0, .slice none 0 0] 25 (0, 0))
  new : W.heap[w.heap.size + 1 + 1]? = some (.cells (seatA s1) 25 (0, 0))
  ext : Ext w W
theorem RAskW.start (w : World) (s s1 : SeatV) : RAskW w ((((w.alloc (.cells #[.int .i64 s.i, .slice s.P.p s.P.n s.P.c, .int .i64 s.t, .int .i64 s.v, .int .i64 s.r, .slice s.L.p s.L.n s.L.c, .int .i64 s.c, .slice s.V.p s.V.n s.V.c, .slice s.N.p s.N.n s.N.c, .slice s.M.p s.M.n s.M.c] 25)).alloc (.cells #[.int .i64 0, .slice none 0 0, .int .i64 0, .int .i64 0, .int .i64 0, .slice none 0 0, .int .i64 0, .slice none 0 0, .slice none 0 0, .slice none 0 0] 25)).alloc (.cells #[.int .i64 0, .slice none 0 0, .int .i64 0, .int .i64 0, .int .i64 0, .slice none 0 0, .int .i64 0, .slice none 0 0, .slice none 0 0, .slice none 0 0] 25)).setRow (w.heap.size + 1 + 1) (seatA s1)) s s1 := by
  refine ⟨?_, ?_, ?_, ?_⟩
  · rw [setRow_other _ _ _ _ (by omega)]
    refine heap_ext (w := (w.alloc (.cells #[.int .i64 s.i, .slice s.P.p s.P.n s.P.c, .int .i64 s.t, .int .i64 s.v, .int .i64 s.r, .slice s.L.p s.L.n s.L.c, .int .i64 s.c, .slice s.V.p s.V.n s.V.c, .slice s.N.p s.N.n s.N.c, .slice s.M.p s.M.n s.M.c] 25))) (by have := heap_alloc_new w (.cells #[.int .i64 s.i, .slice s.P.p s.P.n s.P.c, .int .i64 s.t, .int .i64 s.v, .int .i64 s.r, .slice s.L.p s.L.n s.L.c, .int .i64 s.c, .slice s.V.p s.V.n s.V.c, .slice s.N.p s.N.n s.N.c, .slice s.M.p s.M.n s.M.c] 25); simpa [seatA] using this) ?_
    (unfold Ext; repeat (first | exact Below.refl _ _ | assumption | refine Below.drew ?_ | refine below_drewN ?_ _ | refine Below.alloc ?_ (by first | exact Nat.le_refl _ | (simp; done) | (simp; omega) | omega) _ | refine Below.setCell ?_ (by first | exact Nat.le_refl _ | (simp; done) | (simp; omega) | omega) _))
  · rw [setRow_other _ _ _ _ (by omega)]
    refine heap_ext (w := ((w.alloc (.cells #[.int .i64 s.i, .slice s.P.p s.P.n s.P.c, .int .i64 s.t, .int .i64 s.v, .int .i64 s.r, .slice s.L.p s.L.n s.L.c, .int .i64 s.c, .slice s.V.p s.V.n s.V.c, .slice s.N.p s.N.n s.N.c, .slice s.M.p s.M.n s.M.c] 25)).alloc (.cells #[.int .i64 0, .slice none 0 0, .int .i64 0, .int .i64 0, .int .i64 0, .slice none 0 0, .int .i64 0, .slice none 0 0, .slice none 0 0, .slice none 0 0] 25))) (by have := heap_alloc_new (w.alloc (.cells #[.int .i64 s.i, .slice s.P.p s.P.n s.P.c, .int .i64 s.t, .int .i64 s.v, .int .i64 s.r, .slice s.L.p s.L.n s.L.c, .int .i64 s.c, .slice s.V.p s.V.n s.V.c, .slice s.N.p s.N.n s.N.c, .slice s.M.p s.M.n s.M.c] 25)) (.cells #[.int .i64 0, .slice none 0 0, .int .i64 0, .int .i64 0, .int .i64 0, .slice none 0 0, .int .i64 0, .slice none 0 0, .slice none 0 0, .slice none 0 0] 25); simpa [seatA] using this) ?_
    (unfold Ext; repeat (first | exact Below.refl _ _ | assumption | refine Below.drew ?_ | refine below_drewN ?_ _ | refine Below.alloc ?_ (by first | exact Nat.le_refl _ | (simp; done) | (simp; omega) | omega) _ | refine Below.setCell ?_ (by first | exact Nat.le_refl _ | (simp; done) | (simp; omega) | omega) _))
  · refine setRow_heap _ _ _ _ _ _ (?_ : _ = some (Obj.cells #[.int .i64 0, .slice none 0 0, .int .i64 0, .int .i64 0, .int .i64 0, .slice none 0 0, .int .i64 0, .slice none 0 0, .slice none 0 0, .slice none 0 0] 25 (0, 0)))
    have := heap_alloc_new ((w.alloc (.cells #[.int .i64 s.i, .slice s.P.p s.P.n s.P.c, .int .i64 s.t, .int .i64 s.v, .int .i64 s.r, .slice s.L.p s.L.n s.L.c, .int .i64 s.c, .slice s.V.p s.V.n s.V.c, .slice s.N.p s.N.n s.N.c, .slice s.M.p s.M.n s.M.c] 25)).alloc (.cells #[.int .i64 0, .slice none 0 0, .int .i64 0, .int .i64 0, .int .i64 0, .slice none 0 0, .int .i64 0, .slice none 0 0, .slice none 0 0, .slice none 0 0] 25)) (.cells #[.int .i64 0, .slice none 0 0, .int .i64 0, .int .i64 0, .int .i64 0, .slice none 0 0, .int .i64 0, .slice none 0 0, .slice none 0 0, .slice none 0 0] 25); simpa [seatA] using this
  · exact ext_setRow (by (unfold Ext; repeat (first | exact Below.refl _ _ | assumption | refine Below.drew ?_ | refine below_drewN ?_ _ | refine Below.alloc ?_ (by first | exact Nat.le_refl _ | (simp; done) | (simp; omega) | omega) _ | refine Below.setCell ?_ (by first | exact Nat.le_refl _ | (simp; done) | (simp; omega) | omega) _))) (by omega) _
theorem RAskW.lay {w W W' : World} {s s1 s2 : SeatV} (h : RAskW w W s s1) (hx : Ext W W') : RAskW w (W'.setRow (w.heap.size + 1 + 1) (seatA s2)) s s2 := by
  refine ⟨?_, ?_, setRow_heap _ _ _ _ _ _ (heap_ext h.new hx), ext_setRow (Ext.trans h.ext hx) (by omega) _⟩
  · rw [setRow_other _ _ _ _ (by omega)]; exact heap_ext h.seat hx
  · rw [setRow_other _ _ _ _ (by omega)]; exact heap_ext h.res hx

set_option maxRecDepth 100000 in
set_option maxHeartbeats 8000000 in
theorem rask_less (s : SeatV) (d : St) (w : World) (h : SeatR w s d) (term who last many : Int) (hlt : term < d.t) :
    Calls Try.prog 13 #[.agg (seatA s), .int .i64 term, .int .i64 who, .int .i64 last, .int .i64 many] w fun e w' => RetAsk w s (askB d term who last many) (fun d' => askD d' (askB d term who last many) term who) e w' := by
  have g1 : term < s.t := by rw [h.t]; exact hlt
  have g2 := Lib.hid g1
  have HBF : Hid (askB d term who last many = false) := Lib.hid (by
    have e0 : upD d term = d := by unfold upD; rw [if_neg (by omega)]
    unfold askB
    rw [e0, decide_eq_false (by omega)]; rfl)
  have HRES : Hid (((w.alloc (.cells #[.int .i64 s.i, .slice s.P.p s.P.n s.P.c, .int .i64 s.t, .int .i64 s.v, .int .i64 s.r, .slice s.L.p s.L.n s.L.c, .int .i64 s.c, .slice s.V.p s.V.n s.V.c, .slice s.N.p s.N.n s.N.c, .slice s.M.p s.M.n s.M.c] 25)).alloc (.cells #[.int .i64 0, .slice none 0 0, .int .i64 0, .int .i64 0, .int .i64 0, .slice none 0 0, .int .i64 0, .slice none 0 0, .slice none 0 0, .slice none 0 0] 25)).heap[w.heap.size + 1]? = some (.cells #[.int .i64 0, .slice none 0 0, .int .i64 0, .int .i64 0, .int .i64 0, .slice none 0 0, .int .i64 0, .slice none 0 0, .slice none 0 0, .slice none 0 0] 25 (0, 0))) := Lib.hid (by have := heap_alloc_new (w.alloc (.cells #[.int .i64 s.i, .slice s.P.p s.P.n s.P.c, .int .i64 s.t, .int .i64 s.v, .int .i64 s.r, .slice s.L.p s.L.n s.L.c, .int .i64 s.c, .slice s.V.p s.V.n s.V.c, .slice s.N.p s.N.n s.N.c, .slice s.M.p s.M.n s.M.c] 25)) (.cells #[.int .i64 0, .slice none 0 0, .int .i64 0, .int .i64 0, .int .i64 0, .slice none 0 0, .int .i64 0, .slice none 0 0, .slice none 0 0, .slice none 0 0] 25); simpa [seatA] using this)
  have HTR : Hid (∀ (W : World) (d' : St), SeatR W s d' → SeatR W s (upD d' term)) := Lib.hid (fun W d' h => by
    have e0 : upD d' term = d' := by unfold upD; rw [if_neg (by rw [← h.t]; have := g2.out; omega)]
    rw [e0]; exact h)
  clear h hlt
  unfold seatA
  go_enter Try.func13, Try.ntmps13
  go_wp2_with (((with_reducible refine wpList_store_row (o := ⟨none, .store 25 (.tmp 10) (.tmp 18), _, _, _, _⟩) ?_ 25 (.tmp 10) (.tmp 18) ?_ (w.heap.size + 1) #[.int .i64 s.i, .slice s.P.p s.P.n s.P.c, .int .i64 s.t, .int .i64 s.v, .int .i64 s.r, .slice s.L.p s.L.n s.L.c, .int .i64 s.c, .slice s.V.p s.V.n s.V.c, .slice s.N.p s.N.n s.N.c, .slice s.M.p s.M.n s.M.c] ?_ ?_ 25 #[.int .i64 0, .slice none 0 0, .int .i64 0, .int .i64 0, .int .i64 0, .slice none 0 0, .int .i64 0, .slice none 0 0, .slice none 0 0, .slice none 0 0] ?_ ?_ ?_ ?_ ?_); (exact rfl); (exact rfl); (exact rfl); (exact rfl); (exact HRES.out); (exact info_seat); (exact rfl); (exact seat_one s)))
  have HR2 := Lib.hid (setRow_heap _ _ _ #[.int .i64 s.i, .slice s.P.p s.P.n s.P.c, .int .i64 s.t, .int .i64 s.v, .int .i64 s.r, .slice s.L.p s.L.n s.L.c, .int .i64 s.c, .slice s.V.p s.V.n s.V.c, .slice s.N.p s.N.n s.N.c, .slice s.M.p s.M.n s.M.c] _ _ HRES.out)
  have X2 : Ext w (((w.alloc (.cells #[.int .i64 s.i, .slice s.P.p s.P.n s.P.c, .int .i64 s.t, .int .i64 s.v, .int .i64 s.r, .slice s.L.p s.L.n s.L.c, .int .i64 s.c, .slice s.V.p s.V.n s.V.c, .slice s.N.p s.N.n s.N.c, .slice s.M.p s.M.n s.M.c] 25)).alloc (.cells #[.int .i64 0, .slice none 0 0, .int .i64 0, .int .i64 0, .int .i64 0, .slice none 0 0, .int .i64 0, .slice none 0 0, .slice none 0 0, .slice none 0 0] 25)).setRow (w.heap.size + 1) #[.int .i64 s.i, .slice s.P.p s.P.n s.P.c, .int .i64 s.t, .int .i64 s.v, .int .i64 s.r, .slice s.L.p s.L.n s.L.c, .int .i64 s.c, .slice s.V.p s.V.n s.V.c, .slice s.N.p s.N.n s.N.c, .slice s.M.p s.M.n s.M.c]) := ext_setRow (by (unfold Ext; repeat (first | exact Below.refl _ _ | assumption | refine Below.drew ?_ | refine below_drewN ?_ _ | refine Below.alloc ?_ (by first | exact Nat.le_refl _ | (simp; done) | (simp; omega) | omega) _ | refine Below.setCell ?_ (by first | exact Nat.le_refl _ | (simp; done) | (simp; omega) | omega) _))) (by omega) _
  generalize ((w.alloc (.cells #[.int .i64 s.i, .slice s.P.p s.P.n s.P.c, .int .i64 s.t, .int .i64 s.v, .int .i64 s.r, .slice s.L.p s.L.n s.L.c, .int .i64 s.c, .slice s.V.p s.V.n s.V.c, .slice s.N.p s.N.n s.N.c, .slice s.M.p s.M.n s.M.c] 25)).alloc (.cells #[.int .i64 0, .slice none 0 0, .int .i64 0, .int .i64 0, .int .i64 0, .slice none 0 0, .int .i64 0, .slice none 0 0, .slice none 0 0, .slice none 0 0] 25)).setRow (w.heap.size + 1) #[.int .i64 s.i, .slice s.P.p s.P.n s.P.c, .int .i64 s.t, .int .i64 s.v, .int .i64 s.r, .slice s.L.p s.L.n s.L.c, .int .i64 s.c, .slice s.V.p s.V.n s.V.c, .slice s.N.p s.N.n s.N.c, .slice s.M.p s.M.n s.M.c] = W2 at HR2 X2 ⊢
  have ri : W2.cell? ⟨w.heap.size + 1, 0, none⟩ = some (.int .i64 s.i) := cell_of_row _ _ 0 _ _ _ HR2.out
  have rP : W2.cell? ⟨w.heap.size + 1, 1, none⟩ = some (.slice s.P.p s.P.n s.P.c) := cell_of_row _ _ 1 _ _ _ HR2.out
  have rt : W2.cell? ⟨w.heap.size + 1, 2, none⟩ = some (.int .i64 s.t) := cell_of_row _ _ 2 _ _ _ HR2.out
  have rv : W2.cell? ⟨w.heap.size + 1, 3, none⟩ = some (.int .i64 s.v) := cell_of_row _ _ 3 _ _ _ HR2.out
  have rr : W2.cell? ⟨w.heap.size + 1, 4, none⟩ = some (.int .i64 s.r) := cell_of_row _ _ 4 _ _ _ HR2.out
  have rL : W2.cell? ⟨w.heap.size + 1, 5, none⟩ = some (.slice s.L.p s.L.n s.L.c) := cell_of_row _ _ 5 _ _ _ HR2.out
  have rc : W2.cell? ⟨w.heap.size + 1, 6, none⟩ = some (.int .i64 s.c) := cell_of_row _ _ 6 _ _ _ HR2.out
  have rV : W2.cell? ⟨w.heap.size + 1, 7, none⟩ = some (.slice s.V.p s.V.n s.V.c) := cell_of_row _ _ 7 _ _ _ HR2.out
  have rN : W2.cell? ⟨w.heap.size + 1, 8, none⟩ = some (.slice s.N.p s.N.n s.N.c) := cell_of_row _ _ 8 _ _ _ HR2.out
  have rM : W2.cell? ⟨w.heap.size + 1, 9, none⟩ = some (.slice s.M.p s.M.n s.M.c) := cell_of_row _ _ 9 _ _ _ HR2.out
  go_wp2
  rw [HBF.out]
  refine bodyPost_ret (v := .tuple #[.agg (seatA s), .bool false]) (by simp [results, Try.results13, go_sem, seatA, ri, rP, rt, rv, rr, rL, rc, rV, rN, rM]) rfl ⟨⟨_, rfl, fun W d' h => ?_⟩, X2⟩
  have h2 := HTR.out W d' h
  have e0 : askD d' false term who = upD d' term := rfl
  show SeatR W s (askD d' false term who)
  rw [e0]; exact h2

set_option maxRecDepth 100000 in
set_option maxHeartbeats 8000000 in
theorem rask_same (s : SeatV) (d : St) (w : World) (h : SeatR w s d) (term who last many : Int) (hlt : term = d.t) :
    Calls Try.prog 13 #[.agg (seatA s), .int .i64 term, .int .i64 who, .int .i64 last, .int .i64 many] w fun e w' => RetAsk w s (askB d term who last many) (fun d' => askD d' (askB d term who last many) term who) e w' := by
  have g1 : ¬ term < s.t := by rw [h.t]; omega
  have g1b : ¬ s.t < term := by rw [h.t]; omega
  have g2 := Lib.hid g1b
  have H := Lib.hid h
  have HD1 : Hid (upD d term = d) := Lib.hid (by unfold upD; rw [if_neg (by omega)])
  have HT : Hid (term = d.t) := Lib.hid hlt
  have HV : Hid (decide (d.v = -1 ∨ d.v = who) = decide (s.v = -1 ∨ s.v = who)) := Lib.hid (by rw [h.v])
  have HTR : Hid (∀ (W : World) (d' : St), SeatR W s d' → SeatR W s (upD d' term)) := Lib.hid (fun W d' h => by
    have e0 : upD d' term = d' := by unfold upD; rw [if_neg (by rw [← h.t]; exact g2.out)]
    rw [e0]; exact h)
  have HZ : Hid ((((w.alloc (.cells #[.int .i64 s.i, .slice s.P.p s.P.n s.P.c, .int .i64 s.t, .int .i64 s.v, .int .i64 s.r, .slice s.L.p s.L.n s.L.c, .int .i64 s.c, .slice s.V.p s.V.n s.V.c, .slice s.N.p s.N.n s.N.c, .slice s.M.p s.M.n s.M.c] 25)).alloc (.cells #[.int .i64 0, .slice none 0 0, .int .i64 0, .int .i64 0, .int .i64 0, .slice none 0 0, .int .i64 0, .slice none 0 0, .slice none 0 0, .slice none 0 0] 25)).alloc (.cells #[.int .i64 0, .slice none 0 0, .int .i64 0, .int .i64 0, .int .i64 0, .slice none 0 0, .int .i64 0, .slice none 0 0, .slice none 0 0, .slice none 0 0] 25)).heap[w.heap.size + 1 + 1]? = some (.cells #[.int .i64 0, .slice none 0 0, .int .i64 0, .int .i64 0, .int .i64 0, .slice none 0 0, .int .i64 0, .slice none 0 0, .slice none 0 0, .slice none 0 0] 25 (0, 0))) := Lib.hid (by have := heap_alloc_new ((w.alloc (.cells #[.int .i64 s.i, .slice s.P.p s.P.n s.P.c, .int .i64 s.t, .int .i64 s.v, .int .i64 s.r, .slice s.L.p s.L.n s.L.c, .int .i64 s.c, .slice s.V.p s.V.n s.V.c, .slice s.N.p s.N.n s.N.c, .slice s.M.p s.M.n s.M.c] 25)).alloc (.cells #[.int .i64 0, .slice none 0 0, .int .i64 0, .int .i64 0, .int .i64 0, .slice none 0 0, .int .i64 0, .slice none 0 0, .slice none 0 0, .slice none 0 0] 25)) (.cells #[.int .i64 0, .slice none 0 0, .int .i64 0, .int .i64 0, .int .i64 0, .slice none 0 0, .int .i64 0, .slice none 0 0, .slice none 0 0, .slice none 0 0] 25); simpa [seatA] using this)
  have HA : Hid (RAskW w ((((w.alloc (.cells #[.int .i64 s.i, .slice s.P.p s.P.n s.P.c, .int .i64 s.t, .int .i64 s.v, .int .i64 s.r, .slice s.L.p s.L.n s.L.c, .int .i64 s.c, .slice s.V.p s.V.n s.V.c, .slice s.N.p s.N.n s.N.c, .slice s.M.p s.M.n s.M.c] 25)).alloc (.cells #[.int .i64 0, .slice none 0 0, .int .i64 0, .int .i64 0, .int .i64 0, .slice none 0 0, .int .i64 0, .slice none 0 0, .slice none 0 0, .slice none 0 0] 25)).alloc (.cells #[.int .i64 0, .slice none 0 0, .int .i64 0, .int .i64 0, .int .i64 0, .slice none 0 0, .int .i64 0, .slice none 0 0, .slice none 0 0, .slice none 0 0] 25)).setRow (w.heap.size + 1 + 1) #[.int .i64 s.i, .slice s.P.p s.P.n s.P.c, .int .i64 s.t, .int .i64 s.v, .int .i64 s.r, .slice s.L.p s.L.n s.L.c, .int .i64 s.c, .slice s.V.p s.V.n s.V.c, .slice s.N.p s.N.n s.N.c, .slice s.M.p s.M.n s.M.c]) s s) := Lib.hid (RAskW.start w s s)
  have cT : ((((w.alloc (.cells #[.int .i64 s.i, .slice s.P.p s.P.n s.P.c, .int .i64 s.t, .int .i64 s.v, .int .i64 s.r, .slice s.L.p s.L.n s.L.c, .int .i64 s.c, .slice s.V.p s.V.n s.V.c, .slice s.N.p s.N.n s.N.c, .slice s.M.p s.M.n s.M.c] 25)).alloc (.cells #[.int .i64 0, .slice none 0 0, .int .i64 0, .int .i64 0, .int .i64 0, .slice none 0 0, .int .i64 0, .slice none 0 0, .slice none 0 0, .slice none 0 0] 25)).alloc (.cells #[.int .i64 0, .slice none 0 0, .int .i64 0, .int .i64 0, .int .i64 0, .slice none 0 0, .int .i64 0, .slice none 0 0, .slice none 0 0, .slice none 0 0] 25)).setRow (w.heap.size + 1 + 1) #[.int .i64 s.i, .slice s.P.p s.P.n s.P.c, .int .i64 s.t, .int .i64 s.v, .int .i64 s.r, .slice s.L.p s.L.n s.L.c, .int .i64 s.c, .slice s.V.p s.V.n s.V.c, .slice s.N.p s.N.n s.N.c, .slice s.M.p s.M.n s.M.c]).cell? ⟨w.heap.size, 2, none⟩ = some (.int .i64 s.t) := cell_of_row _ _ 2 _ _ _ HA.out.seat
  have cL0 : ((((w.alloc (.cells #[.int .i64 s.i, .slice s.P.p s.P.n s.P.c, .int .i64 s.t, .int .i64 s.v, .int .i64 s.r, .slice s.L.p s.L.n s.L.c, .int .i64 s.c, .slice s.V.p s.V.n s.V.c, .slice s.N.p s.N.n s.N.c, .slice s.M.p s.M.n s.M.c] 25)).alloc (.cells #[.int .i64 0, .slice none 0 0, .int .i64 0, .int .i64 0, .int .i64 0, .slice none 0 0, .int .i64 0, .slice none 0 0, .slice none 0 0, .slice none 0 0] 25)).alloc (.cells #[.int .i64 0, .slice none 0 0, .int .i64 0, .int .i64 0, .int .i64 0, .slice none 0 0, .int .i64 0, .slice none 0 0, .slice none 0 0, .slice none 0 0] 25)).setRow (w.heap.size + 1 + 1) #[.int .i64 s.i, .slice s.P.p s.P.n s.P.c, .int .i64 s.t, .int .i64 s.v, .int .i64 s.r, .slice s.L.p s.L.n s.L.c, .int .i64 s.c, .slice s.V.p s.V.n s.V.c, .slice s.N.p s.N.n s.N.c, .slice s.M.p s.M.n s.M.c]).cell? ⟨w.heap.size, 5, none⟩ = some (.slice s.L.p s.L.n s.L.c) := cell_of_row _ _ 5 _ _ _ HA.out.seat
  clear h hlt
  unfold seatA
  go_enter Try.func13, Try.ntmps13
  go_wp2_with (((with_reducible refine wpList_store_row (o := ⟨none, .store 25 (.tmp 12) (.tmp 19), _, _, _, _⟩) ?_ 25 (.tmp 12) (.tmp 19) ?_ (w.heap.size + 1 + 1) #[.int .i64 s.i, .slice s.P.p s.P.n s.P.c, .int .i64 s.t, .int .i64 s.v, .int .i64 s.r, .slice s.L.p s.L.n s.L.c, .int .i64 s.c, .slice s.V.p s.V.n s.V.c, .slice s.N.p s.N.n s.N.c, .slice s.M.p s.M.n s.M.c] ?_ ?_ 25 #[.int .i64 0, .slice none 0 0, .int .i64 0, .int .i64 0, .int .i64 0, .slice none 0 0, .int .i64 0, .slice none 0 0, .slice none 0 0, .slice none 0 0] ?_ ?_ ?_ ?_ ?_); (exact rfl); (exact rfl); (exact rfl); (exact rfl); (exact HZ.out); (exact info_seat); (exact rfl); (exact seat_one s)); generalize (((w.alloc (.cells #[.int .i64 s.i, .slice s.P.p s.P.n s.P.c, .int .i64 s.t, .int .i64 s.v, .int .i64 s.r, .slice s.L.p s.L.n s.L.c, .int .i64 s.c, .slice s.V.p s.V.n s.V.c, .slice s.N.p s.N.n s.N.c, .slice s.M.p s.M.n s.M.c] 25)).alloc (.cells #[.int .i64 0, .slice none 0 0, .int .i64 0, .int .i64 0, .int .i64 0, .slice none 0 0, .int .i64 0, .slice none 0 0, .slice none 0 0, .slice none 0 0] 25)).alloc (.cells #[.int .i64 0, .slice none 0 0, .int .i64 0, .int .i64 0, .int .i64 0, .slice none 0 0, .int .i64 0, .slice none 0 0, .slice none 0 0, .slice none 0 0] 25)).setRow (w.heap.size + 1 + 1) #[.int .i64 s.i, .slice s.P.p s.P.n s.P.c, .int .i64 s.t, .int .i64 s.v, .int .i64 s.r, .slice s.L.p s.L.n s.L.c, .int .i64 s.c, .slice s.V.p s.V.n s.V.c, .slice s.N.p s.N.n s.N.c, .slice s.M.p s.M.n s.M.c] = W at HA cT cL0 ⊢)
  have ci : W.cell? ⟨w.heap.size + 1 + 1, 0, none⟩ = some (.int .i64 s.i) := cell_of_row _ _ 0 _ _ _ HA.out.new
  have cP : W.cell? ⟨w.heap.size + 1 + 1, 1, none⟩ = some (.slice s.P.p s.P.n s.P.c) := cell_of_row _ _ 1 _ _ _ HA.out.new
  have ct : W.cell? ⟨w.heap.size + 1 + 1, 2, none⟩ = some (.int .i64 s.t) := cell_of_row _ _ 2 _ _ _ HA.out.new
  have cv : W.cell? ⟨w.heap.size + 1 + 1, 3, none⟩ = some (.int .i64 s.v) := cell_of_row _ _ 3 _ _ _ HA.out.new
  have cr : W.cell? ⟨w.heap.size + 1 + 1, 4, none⟩ = some (.int .i64 s.r) := cell_of_row _ _ 4 _ _ _ HA.out.new
  have cL : W.cell? ⟨w.heap.size + 1 + 1, 5, none⟩ = some (.slice s.L.p s.L.n s.L.c) := cell_of_row _ _ 5 _ _ _ HA.out.new
  have cc : W.cell? ⟨w.heap.size + 1 + 1, 6, none⟩ = some (.int .i64 s.c) := cell_of_row _ _ 6 _ _ _ HA.out.new
  have cV : W.cell? ⟨w.heap.size + 1 + 1, 7, none⟩ = some (.slice s.V.p s.V.n s.V.c) := cell_of_row _ _ 7 _ _ _ HA.out.new
  have cN : W.cell? ⟨w.heap.size + 1 + 1, 8, none⟩ = some (.slice s.N.p s.N.n s.N.c) := cell_of_row _ _ 8 _ _ _ HA.out.new
  have cM : W.cell? ⟨w.heap.size + 1 + 1, 9, none⟩ = some (.slice s.M.p s.M.n s.M.c) := cell_of_row _ _ 9 _ _ _ HA.out.new
  have fv : W.frozen? ⟨w.heap.size + 1 + 1, 3, none⟩ = false := (cells_ext HA.out.new (Ext.refl _)).2 3
  have HN := Lib.hid (rnewer_any s.L.p s.L.n s.L.c d.L W (H.out.ext HA.out.ext).L.1 last many)
  obtain ⟨b3, hb3⟩ : ∃ b3, newerB d.L last many = b3 := ⟨_, rfl⟩
  have HB3 := Lib.hid hb3
  rw [hb3] at HN
  clear hb3
  refine HN.out.mono ?_
  rintro e w' ⟨rfl, rfl⟩
  clear HN
  have HRES := Lib.hid HA.out.res
  have HASK : Hid (askB d term who last many = (decide (s.v = -1 ∨ s.v = who) && b3)) := Lib.hid (by
    unfold askB
    rw [HD1.out, decide_eq_true HT.out, HB3.out, Bool.true_and, HV.out])
  cases b3
  · have HBF : Hid (askB d term who last many = false) := Lib.hid (by rw [HASK.out]; simp)
    go_wp2_with (((with_reducible refine wpList_store_row (o := ⟨none, .store 25 (.tmp 10) (.tmp 47), _, _, _, _⟩) ?_ 25 (.tmp 10) (.tmp 47) ?_ (w.heap.size + 1) #[.int .i64 s.i, .slice s.P.p s.P.n s.P.c, .int .i64 s.t, .int .i64 s.v, .int .i64 s.r, .slice s.L.p s.L.n s.L.c, .int .i64 s.c, .slice s.V.p s.V.n s.V.c, .slice s.N.p s.N.n s.N.c, .slice s.M.p s.M.n s.M.c] ?_ ?_ 25 #[.int .i64 0, .slice none 0 0, .int .i64 0, .int .i64 0, .int .i64 0, .slice none 0 0, .int .i64 0, .slice none 0 0, .slice none 0 0, .slice none 0 0] ?_ ?_ ?_ ?_ ?_); (exact rfl); (exact rfl); (exact rfl); (exact rfl); (exact HRES.out); (exact info_seat); (exact rfl); (exact seat_one s)))
    have HR2 := Lib.hid (setRow_heap _ _ _ #[.int .i64 s.i, .slice s.P.p s.P.n s.P.c, .int .i64 s.t, .int .i64 s.v, .int .i64 s.r, .slice s.L.p s.L.n s.L.c, .int .i64 s.c, .slice s.V.p s.V.n s.V.c, .slice s.N.p s.N.n s.N.c, .slice s.M.p s.M.n s.M.c] _ _ HRES.out)
    have X2 : Ext w (W.setRow (w.heap.size + 1) #[.int .i64 s.i, .slice s.P.p s.P.n s.P.c, .int .i64 s.t, .int .i64 s.v, .int .i64 s.r, .slice s.L.p s.L.n s.L.c, .int .i64 s.c, .slice s.V.p s.V.n s.V.c, .slice s.N.p s.N.n s.N.c, .slice s.M.p s.M.n s.M.c]) := ext_setRow HA.out.ext (by omega) _
    generalize W.setRow (w.heap.size + 1) #[.int .i64 s.i, .slice s.P.p s.P.n s.P.c, .int .i64 s.t, .int .i64 s.v, .int .i64 s.r, .slice s.L.p s.L.n s.L.c, .int .i64 s.c, .slice s.V.p s.V.n s.V.c, .slice s.N.p s.N.n s.N.c, .slice s.M.p s.M.n s.M.c] = W2 at HR2 X2 ⊢
    have ri : W2.cell? ⟨w.heap.size + 1, 0, none⟩ = some (.int .i64 s.i) := cell_of_row _ _ 0 _ _ _ HR2.out
    have rP : W2.cell? ⟨w.heap.size + 1, 1, none⟩ = some (.slice s.P.p s.P.n s.P.c) := cell_of_row _ _ 1 _ _ _ HR2.out
    have rt : W2.cell? ⟨w.heap.size + 1, 2, none⟩ = some (.int .i64 s.t) := cell_of_row _ _ 2 _ _ _ HR2.out
    have rv : W2.cell? ⟨w.heap.size + 1, 3, none⟩ = some (.int .i64 s.v) := cell_of_row _ _ 3 _ _ _ HR2.out
    have rr : W2.cell? ⟨w.heap.size + 1, 4, none⟩ = some (.int .i64 s.r) := cell_of_row _ _ 4 _ _ _ HR2.out
    have rL : W2.cell? ⟨w.heap.size + 1, 5, none⟩ = some (.slice s.L.p s.L.n s.L.c) := cell_of_row _ _ 5 _ _ _ HR2.out
    have rc : W2.cell? ⟨w.heap.size + 1, 6, none⟩ = some (.int .i64 s.c) := cell_of_row _ _ 6 _ _ _ HR2.out
    have rV : W2.cell? ⟨w.heap.size + 1, 7, none⟩ = some (.slice s.V.p s.V.n s.V.c) := cell_of_row _ _ 7 _ _ _ HR2.out
    have rN : W2.cell? ⟨w.heap.size + 1, 8, none⟩ = some (.slice s.N.p s.N.n s.N.c) := cell_of_row _ _ 8 _ _ _ HR2.out
    have rM : W2.cell? ⟨w.heap.size + 1, 9, none⟩ = some (.slice s.M.p s.M.n s.M.c) := cell_of_row _ _ 9 _ _ _ HR2.out
    go_wp2
    rw [HBF.out]
    refine bodyPost_ret (v := .tuple #[.agg (seatA s), .bool false]) (by simp [results, Try.results13, go_sem, seatA, ri, rP, rt, rv, rr, rL, rc, rV, rN, rM]) rfl ⟨⟨_, rfl, fun W d' h => ?_⟩, X2⟩
    have h2 := HTR.out W d' h
    have e0 : askD d' false term who = upD d' term := rfl
    show SeatR W s (askD d' false term who)
    rw [e0]; exact h2
  by_cases h1 : s.v = -1
  · have e1 : (s.v == -1) = true := by simp [h1]
    have H1 := Lib.hid h1
    clear h1
    have HBF : Hid (askB d term who last many = true) := Lib.hid (by rw [HASK.out, decide_eq_true (.inl H1.out)]; rfl)
    have HRES2 : Hid ((W.setCell ⟨w.heap.size + 1 + 1, 3, none⟩ (.int .i64 who)).heap[w.heap.size + 1]? = some (.cells #[.int .i64 0, .slice none 0 0, .int .i64 0, .int .i64 0, .int .i64 0, .slice none 0 0, .int .i64 0, .slice none 0 0, .slice none 0 0, .slice none 0 0] 25 (0, 0))) := Lib.hid (by rw [Below.heap_setCell _ _ _ _ (by simp)]; exact HRES.out)
    go_wp2_with (((with_reducible refine wpList_store_row (o := ⟨none, .store 25 (.tmp 10) (.tmp 46), _, _, _, _⟩) ?_ 25 (.tmp 10) (.tmp 46) ?_ (w.heap.size + 1) #[.int .i64 s.i, .slice s.P.p s.P.n s.P.c, .int .i64 s.t, .int .i64 who, .int .i64 s.r, .slice s.L.p s.L.n s.L.c, .int .i64 s.c, .slice s.V.p s.V.n s.V.c, .slice s.N.p s.N.n s.N.c, .slice s.M.p s.M.n s.M.c] ?_ ?_ 25 #[.int .i64 0, .slice none 0 0, .int .i64 0, .int .i64 0, .int .i64 0, .slice none 0 0, .int .i64 0, .slice none 0 0, .slice none 0 0, .slice none 0 0] ?_ ?_ ?_ ?_ ?_); (exact rfl); (exact rfl); (exact rfl); (exact rfl); (exact HRES2.out); (exact info_seat); (exact rfl); (exact seat_one { s with v := who })))
    have HR2 := Lib.hid (setRow_heap _ _ _ #[.int .i64 s.i, .slice s.P.p s.P.n s.P.c, .int .i64 s.t, .int .i64 who, .int .i64 s.r, .slice s.L.p s.L.n s.L.c, .int .i64 s.c, .slice s.V.p s.V.n s.V.c, .slice s.N.p s.N.n s.N.c, .slice s.M.p s.M.n s.M.c] _ _ HRES2.out)
    have X2 : Ext w ((W.setCell ⟨w.heap.size + 1 + 1, 3, none⟩ (.int .i64 who)).setRow (w.heap.size + 1) #[.int .i64 s.i, .slice s.P.p s.P.n s.P.c, .int .i64 s.t, .int .i64 who, .int .i64 s.r, .slice s.L.p s.L.n s.L.c, .int .i64 s.c, .slice s.V.p s.V.n s.V.c, .slice s.N.p s.N.n s.N.c, .slice s.M.p s.M.n s.M.c]) := ext_setRow (Below.setCell HA.out.ext (p := ⟨w.heap.size + 1 + 1, 3, none⟩) (by simp; omega) _) (by omega) _
    generalize (W.setCell ⟨w.heap.size + 1 + 1, 3, none⟩ (.int .i64 who)).setRow (w.heap.size + 1) #[.int .i64 s.i, .slice s.P.p s.P.n s.P.c, .int .i64 s.t, .int .i64 who, .int .i64 s.r, .slice s.L.p s.L.n s.L.c, .int .i64 s.c, .slice s.V.p s.V.n s.V.c, .slice s.N.p s.N.n s.N.c, .slice s.M.p s.M.n s.M.c] = W2 at HR2 X2 ⊢
    have ri : W2.cell? ⟨w.heap.size + 1, 0, none⟩ = some (.int .i64 s.i) := cell_of_row _ _ 0 _ _ _ HR2.out
    have rP : W2.cell? ⟨w.heap.size + 1, 1, none⟩ = some (.slice s.P.p s.P.n s.P.c) := cell_of_row _ _ 1 _ _ _ HR2.out
    have rt : W2.cell? ⟨w.heap.size + 1, 2, none⟩ = some (.int .i64 s.t) := cell_of_row _ _ 2 _ _ _ HR2.out
    have rv : W2.cell? ⟨w.heap.size + 1, 3, none⟩ = some (.int .i64 who) := cell_of_row _ _ 3 _ _ _ HR2.out
    have rr : W2.cell? ⟨w.heap.size + 1, 4, none⟩ = some (.int .i64 s.r) := cell_of_row _ _ 4 _ _ _ HR2.out
    have rL : W2.cell? ⟨w.heap.size + 1, 5, none⟩ = some (.slice s.L.p s.L.n s.L.c) := cell_of_row _ _ 5 _ _ _ HR2.out
    have rc : W2.cell? ⟨w.heap.size + 1, 6, none⟩ = some (.int .i64 s.c) := cell_of_row _ _ 6 _ _ _ HR2.out
    have rV : W2.cell? ⟨w.heap.size + 1, 7, none⟩ = some (.slice s.V.p s.V.n s.V.c) := cell_of_row _ _ 7 _ _ _ HR2.out
    have rN : W2.cell? ⟨w.heap.size + 1, 8, none⟩ = some (.slice s.N.p s.N.n s.N.c) := cell_of_row _ _ 8 _ _ _ HR2.out
    have rM : W2.cell? ⟨w.heap.size + 1, 9, none⟩ = some (.slice s.M.p s.M.n s.M.c) := cell_of_row _ _ 9 _ _ _ HR2.out
    go_wp2
    rw [HBF.out]
    refine bodyPost_ret (v := .tuple #[.agg (seatA { s with v := who }), .bool true]) (by simp [results, Try.results13, go_sem, seatA, ri, rP, rt, rv, rr, rL, rc, rV, rN, rM]) rfl ⟨⟨_, rfl, fun W d' h => ?_⟩, X2⟩
    have h2 := HTR.out W d' h
    have e0 : askD d' true term who = { upD d' term with v := who } := rfl
    show SeatR W { s with v := who } (askD d' true term who)
    rw [e0]; exact ⟨h2.i, h2.t, rfl, h2.r, h2.c, h2.P, h2.L, h2.V, h2.N, h2.M⟩
  have e1 : (s.v == -1) = false := by simp [h1]
  have H1 := Lib.hid h1
  clear h1
  by_cases h2 : s.v = who
  · have e2 : (s.v == who) = true := by simp [h2]
    have H2 := Lib.hid h2
    clear h2
    have HBF : Hid (askB d term who last many = true) := Lib.hid (by rw [HASK.out, decide_eq_true (.inr H2.out)]; rfl)
    have HRES2 : Hid ((W.setCell ⟨w.heap.size + 1 + 1, 3, none⟩ (.int .i64 who)).heap[w.heap.size + 1]? = some (.cells #[.int .i64 0, .slice none 0 0, .int .i64 0, .int .i64 0, .int .i64 0, .slice none 0 0, .int .i64 0, .slice none 0 0, .slice none 0 0, .slice none 0 0] 25 (0, 0))) := Lib.hid (by rw [Below.heap_setCell _ _ _ _ (by simp)]; exact HRES.out)
    go_wp2_with (((with_reducible refine wpList_store_row (o := ⟨none, .store 25 (.tmp 10) (.tmp 46), _, _, _, _⟩) ?_ 25 (.tmp 10) (.tmp 46) ?_ (w.heap.size + 1) #[.int .i64 s.i, .slice s.P.p s.P.n s.P.c, .int .i64 s.t, .int .i64 who, .int .i64 s.r, .slice s.L.p s.L.n s.L.c, .int .i64 s.c, .slice s.V.p s.V.n s.V.c, .slice s.N.p s.N.n s.N.c, .slice s.M.p s.M.n s.M.c] ?_ ?_ 25 #[.int .i64 0, .slice none 0 0, .int .i64 0, .int .i64 0, .int .i64 0, .slice none 0 0, .int .i64 0, .slice none 0 0, .slice none 0 0, .slice none 0 0] ?_ ?_ ?_ ?_ ?_); (exact rfl); (exact rfl); (exact rfl); (exact rfl); (exact HRES2.out); (exact info_seat); (exact rfl); (exact seat_one { s with v := who })))
    have HR2 := Lib.hid (setRow_heap _ _ _ #[.int .i64 s.i, .slice s.P.p s.P.n s.P.c, .int .i64 s.t, .int .i64 who, .int .i64 s.r, .slice s.L.p s.L.n s.L.c, .int .i64 s.c, .slice s.V.p s.V.n s.V.c, .slice s.N.p s.N.n s.N.c, .slice s.M.p s.M.n s.M.c] _ _ HRES2.out)
    have X2 : Ext w ((W.setCell ⟨w.heap.size + 1 + 1, 3, none⟩ (.int .i64 who)).setRow (w.heap.size + 1) #[.int .i64 s.i, .slice s.P.p s.P.n s.P.c, .int .i64 s.t, .int .i64 who, .int .i64 s.r, .slice s.L.p s.L.n s.L.c, .int .i64 s.c, .slice s.V.p s.V.n s.V.c, .slice s.N.p s.N.n s.N.c, .slice s.M.p s.M.n s.M.c]) := ext_setRow (Below.setCell HA.out.ext (p := ⟨w.heap.size + 1 + 1, 3, none⟩) (by simp; omega) _) (by omega) _
    generalize (W.setCell ⟨w.heap.size + 1 + 1, 3, none⟩ (.int .i64 who)).setRow (w.heap.size + 1) #[.int .i64 s.i, .slice s.P.p s.P.n s.P.c, .int .i64 s.t, .int .i64 who, .int .i64 s.r, .slice s.L.p s.L.n s.L.c, .int .i64 s.c, .slice s.V.p s.V.n s.V.c, .slice s.N.p s.N.n s.N.c, .slice s.M.p s.M.n s.M.c] = W2 at HR2 X2 ⊢
    have ri : W2.cell? ⟨w.heap.size + 1, 0, none⟩ = some (.int .i64 s.i) := cell_of_row _ _ 0 _ _ _ HR2.out
    have rP : W2.cell? ⟨w.heap.size + 1, 1, none⟩ = some (.slice s.P.p s.P.n s.P.c) := cell_of_row _ _ 1 _ _ _ HR2.out
    have rt : W2.cell? ⟨w.heap.size + 1, 2, none⟩ = some (.int .i64 s.t) := cell_of_row _ _ 2 _ _ _ HR2.out
    have rv : W2.cell? ⟨w.heap.size + 1, 3, none⟩ = some (.int .i64 who) := cell_of_row _ _ 3 _ _ _ HR2.out
    have rr : W2.cell? ⟨w.heap.size + 1, 4, none⟩ = some (.int .i64 s.r) := cell_of_row _ _ 4 _ _ _ HR2.out
    have rL : W2.cell? ⟨w.heap.size + 1, 5, none⟩ = some (.slice s.L.p s.L.n s.L.c) := cell_of_row _ _ 5 _ _ _ HR2.out
    have rc : W2.cell? ⟨w.heap.size + 1, 6, none⟩ = some (.int .i64 s.c) := cell_of_row _ _ 6 _ _ _ HR2.out
    have rV : W2.cell? ⟨w.heap.size + 1, 7, none⟩ = some (.slice s.V.p s.V.n s.V.c) := cell_of_row _ _ 7 _ _ _ HR2.out
    have rN : W2.cell? ⟨w.heap.size + 1, 8, none⟩ = some (.slice s.N.p s.N.n s.N.c) := cell_of_row _ _ 8 _ _ _ HR2.out
    have rM : W2.cell? ⟨w.heap.size + 1, 9, none⟩ = some (.slice s.M.p s.M.n s.M.c) := cell_of_row _ _ 9 _ _ _ HR2.out
    go_wp2
    rw [HBF.out]
    refine bodyPost_ret (v := .tuple #[.agg (seatA { s with v := who }), .bool true]) (by simp [results, Try.results13, go_sem, seatA, ri, rP, rt, rv, rr, rL, rc, rV, rN, rM]) rfl ⟨⟨_, rfl, fun W d' h => ?_⟩, X2⟩
    have h2 := HTR.out W d' h
    have e0 : askD d' true term who = { upD d' term with v := who } := rfl
    show SeatR W { s with v := who } (askD d' true term who)
    rw [e0]; exact ⟨h2.i, h2.t, rfl, h2.r, h2.c, h2.P, h2.L, h2.V, h2.N, h2.M⟩
  have e2 : (s.v == who) = false := by simp [h2]
  have H2 := Lib.hid h2
  clear h2
  have HBF : Hid (askB d term who last many = false) := Lib.hid (by rw [HASK.out, decide_eq_false (fun h => h.elim H1.out H2.out)]; rfl)
  go_wp2_with (((with_reducible refine wpList_store_row (o := ⟨none, .store 25 (.tmp 10) (.tmp 47), _, _, _, _⟩) ?_ 25 (.tmp 10) (.tmp 47) ?_ (w.heap.size + 1) #[.int .i64 s.i, .slice s.P.p s.P.n s.P.c, .int .i64 s.t, .int .i64 s.v, .int .i64 s.r, .slice s.L.p s.L.n s.L.c, .int .i64 s.c, .slice s.V.p s.V.n s.V.c, .slice s.N.p s.N.n s.N.c, .slice s.M.p s.M.n s.M.c] ?_ ?_ 25 #[.int .i64 0, .slice none 0 0, .int .i64 0, .int .i64 0, .int .i64 0, .slice none 0 0, .int .i64 0, .slice none 0 0, .slice none 0 0, .slice none 0 0] ?_ ?_ ?_ ?_ ?_); (exact rfl); (exact rfl); (exact rfl); (exact rfl); (exact HRES.out); (exact info_seat); (exact rfl); (exact seat_one s)))
  have HR2 := Lib.hid (setRow_heap _ _ _ #[.int .i64 s.i, .slice s.P.p s.P.n s.P.c, .int .i64 s.t, .int .i64 s.v, .int .i64 s.r, .slice s.L.p s.L.n s.L.c, .int .i64 s.c, .slice s.V.p s.V.n s.V.c, .slice s.N.p s.N.n s.N.c, .slice s.M.p s.M.n s.M.c] _ _ HRES.out)
  have X2 : Ext w (W.setRow (w.heap.size + 1) #[.int .i64 s.i, .slice s.P.p s.P.n s.P.c, .int .i64 s.t, .int .i64 s.v, .int .i64 s.r, .slice s.L.p s.L.n s.L.c, .int .i64 s.c, .slice s.V.p s.V.n s.V.c, .slice s.N.p s.N.n s.N.c, .slice s.M.p s.M.n s.M.c]) := ext_setRow HA.out.ext (by omega) _
  generalize W.setRow (w.heap.size + 1) #[.int .i64 s.i, .slice s.P.p s.P.n s.P.c, .int .i64 s.t, .int .i64 s.v, .int .i64 s.r, .slice s.L.p s.L.n s.L.c, .int .i64 s.c, .slice s.V.p s.V.n s.V.c, .slice s.N.p s.N.n s.N.c, .slice s.M.p s.M.n s.M.c] = W2 at HR2 X2 ⊢
  have ri : W2.cell? ⟨w.heap.size + 1, 0, none⟩ = some (.int .i64 s.i) := cell_of_row _ _ 0 _ _ _ HR2.out
  have rP : W2.cell? ⟨w.heap.size + 1, 1, none⟩ = some (.slice s.P.p s.P.n s.P.c) := cell_of_row _ _ 1 _ _ _ HR2.out
  have rt : W2.cell? ⟨w.heap.size + 1, 2, none⟩ = some (.int .i64 s.t) := cell_of_row _ _ 2 _ _ _ HR2.out
  have rv : W2.cell? ⟨w.heap.size + 1, 3, none⟩ = some (.int .i64 s.v) := cell_of_row _ _ 3 _ _ _ HR2.out
  have rr : W2.cell? ⟨w.heap.size + 1, 4, none⟩ = some (.int .i64 s.r) := cell_of_row _ _ 4 _ _ _ HR2.out
  have rL : W2.cell? ⟨w.heap.size + 1, 5, none⟩ = some (.slice s.L.p s.L.n s.L.c) := cell_of_row _ _ 5 _ _ _ HR2.out
  have rc : W2.cell? ⟨w.heap.size + 1, 6, none⟩ = some (.int .i64 s.c) := cell_of_row _ _ 6 _ _ _ HR2.out
  have rV : W2.cell? ⟨w.heap.size + 1, 7, none⟩ = some (.slice s.V.p s.V.n s.V.c) := cell_of_row _ _ 7 _ _ _ HR2.out
  have rN : W2.cell? ⟨w.heap.size + 1, 8, none⟩ = some (.slice s.N.p s.N.n s.N.c) := cell_of_row _ _ 8 _ _ _ HR2.out
  have rM : W2.cell? ⟨w.heap.size + 1, 9, none⟩ = some (.slice s.M.p s.M.n s.M.c) := cell_of_row _ _ 9 _ _ _ HR2.out
  go_wp2
  rw [HBF.out]
  refine bodyPost_ret (v := .tuple #[.agg (seatA s), .bool false]) (by simp [results, Try.results13, go_sem, seatA, ri, rP, rt, rv, rr, rL, rc, rV, rN, rM]) rfl ⟨⟨_, rfl, fun W d' h => ?_⟩, X2⟩
  have h2 := HTR.out W d' h
  have e0 : askD d' false term who = upD d' term := rfl
  show SeatR W s (askD d' false term who)
  rw [e0]; exact h2

set_option maxRecDepth 100000 in
set_option maxHeartbeats 8000000 in
theorem rask_up (s : SeatV) (d : St) (w : World) (h : SeatR w s d) (term who last many : Int) (hlt : d.t < term) :
    Calls Try.prog 13 #[.agg (seatA s), .int .i64 term, .int .i64 who, .int .i64 last, .int .i64 many] w fun e w' => RetAsk w s (askB d term who last many) (fun d' => askD d' (askB d term who last many) term who) e w' := by
  have g1 : ¬ term < s.t := by rw [h.t]; omega
  have g1b : s.t < term := by rw [h.t]; omega
  have g2 := Lib.hid g1b
  have H := Lib.hid h
  obtain ⟨d1, hd1⟩ : ∃ d1, downD d term = d1 := ⟨_, rfl⟩
  have HD1 : Hid (upD d term = d1) := Lib.hid (by unfold upD; rw [if_pos hlt]; exact hd1)
  have HT : Hid (term = d1.t) := Lib.hid (by rw [← hd1]; rfl)
  have HDD := Lib.hid hd1
  have HZ : Hid ((((w.alloc (.cells #[.int .i64 s.i, .slice s.P.p s.P.n s.P.c, .int .i64 s.t, .int .i64 s.v, .int .i64 s.r, .slice s.L.p s.L.n s.L.c, .int .i64 s.c, .slice s.V.p s.V.n s.V.c, .slice s.N.p s.N.n s.N.c, .slice s.M.p s.M.n s.M.c] 25)).alloc (.cells #[.int .i64 0, .slice none 0 0, .int .i64 0, .int .i64 0, .int .i64 0, .slice none 0 0, .int .i64 0, .slice none 0 0, .slice none 0 0, .slice none 0 0] 25)).alloc (.cells #[.int .i64 0, .slice none 0 0, .int .i64 0, .int .i64 0, .int .i64 0, .slice none 0 0, .int .i64 0, .slice none 0 0, .slice none 0 0, .slice none 0 0] 25)).heap[w.heap.size + 1 + 1]? = some (.cells #[.int .i64 0, .slice none 0 0, .int .i64 0, .int .i64 0, .int .i64 0, .slice none 0 0, .int .i64 0, .slice none 0 0, .slice none 0 0, .slice none 0 0] 25 (0, 0))) := Lib.hid (by have := heap_alloc_new ((w.alloc (.cells #[.int .i64 s.i, .slice s.P.p s.P.n s.P.c, .int .i64 s.t, .int .i64 s.v, .int .i64 s.r, .slice s.L.p s.L.n s.L.c, .int .i64 s.c, .slice s.V.p s.V.n s.V.c, .slice s.N.p s.N.n s.N.c, .slice s.M.p s.M.n s.M.c] 25)).alloc (.cells #[.int .i64 0, .slice none 0 0, .int .i64 0, .int .i64 0, .int .i64 0, .slice none 0 0, .int .i64 0, .slice none 0 0, .slice none 0 0, .slice none 0 0] 25)) (.cells #[.int .i64 0, .slice none 0 0, .int .i64 0, .int .i64 0, .int .i64 0, .slice none 0 0, .int .i64 0, .slice none 0 0, .slice none 0 0, .slice none 0 0] 25); simpa [seatA] using this)
  have HA0 : Hid (RAskW w ((((w.alloc (.cells #[.int .i64 s.i, .slice s.P.p s.P.n s.P.c, .int .i64 s.t, .int .i64 s.v, .int .i64 s.r, .slice s.L.p s.L.n s.L.c, .int .i64 s.c, .slice s.V.p s.V.n s.V.c, .slice s.N.p s.N.n s.N.c, .slice s.M.p s.M.n s.M.c] 25)).alloc (.cells #[.int .i64 0, .slice none 0 0, .int .i64 0, .int .i64 0, .int .i64 0, .slice none 0 0, .int .i64 0, .slice none 0 0, .slice none 0 0, .slice none 0 0] 25)).alloc (.cells #[.int .i64 0, .slice none 0 0, .int .i64 0, .int .i64 0, .int .i64 0, .slice none 0 0, .int .i64 0, .slice none 0 0, .slice none 0 0, .slice none 0 0] 25)).setRow (w.heap.size + 1 + 1) #[.int .i64 s.i, .slice s.P.p s.P.n s.P.c, .int .i64 s.t, .int .i64 s.v, .int .i64 s.r, .slice s.L.p s.L.n s.L.c, .int .i64 s.c, .slice s.V.p s.V.n s.V.c, .slice s.N.p s.N.n s.N.c, .slice s.M.p s.M.n s.M.c]) s s) := Lib.hid (RAskW.start w s s)
  have HDN := Lib.hid (fun w' => rdown_any s w' term)
  have ki : ((((w.alloc (.cells #[.int .i64 s.i, .slice s.P.p s.P.n s.P.c, .int .i64 s.t, .int .i64 s.v, .int .i64 s.r, .slice s.L.p s.L.n s.L.c, .int .i64 s.c, .slice s.V.p s.V.n s.V.c, .slice s.N.p s.N.n s.N.c, .slice s.M.p s.M.n s.M.c] 25)).alloc (.cells #[.int .i64 0, .slice none 0 0, .int .i64 0, .int .i64 0, .int .i64 0, .slice none 0 0, .int .i64 0, .slice none 0 0, .slice none 0 0, .slice none 0 0] 25)).alloc (.cells #[.int .i64 0, .slice none 0 0, .int .i64 0, .int .i64 0, .int .i64 0, .slice none 0 0, .int .i64 0, .slice none 0 0, .slice none 0 0, .slice none 0 0] 25)).setRow (w.heap.size + 1 + 1) #[.int .i64 s.i, .slice s.P.p s.P.n s.P.c, .int .i64 s.t, .int .i64 s.v, .int .i64 s.r, .slice s.L.p s.L.n s.L.c, .int .i64 s.c, .slice s.V.p s.V.n s.V.c, .slice s.N.p s.N.n s.N.c, .slice s.M.p s.M.n s.M.c]).cell? ⟨w.heap.size, 0, none⟩ = some (.int .i64 s.i) := cell_of_row _ _ 0 _ _ _ HA0.out.seat
  have kP : ((((w.alloc (.cells #[.int .i64 s.i, .slice s.P.p s.P.n s.P.c, .int .i64 s.t, .int .i64 s.v, .int .i64 s.r, .slice s.L.p s.L.n s.L.c, .int .i64 s.c, .slice s.V.p s.V.n s.V.c, .slice s.N.p s.N.n s.N.c, .slice s.M.p s.M.n s.M.c] 25)).alloc (.cells #[.int .i64 0, .slice none 0 0, .int .i64 0, .int .i64 0, .int .i64 0, .slice none 0 0, .int .i64 0, .slice none 0 0, .slice none 0 0, .slice none 0 0] 25)).alloc (.cells #[.int .i64 0, .slice none 0 0, .int .i64 0, .int .i64 0, .int .i64 0, .slice none 0 0, .int .i64 0, .slice none 0 0, .slice none 0 0, .slice none 0 0] 25)).setRow (w.heap.size + 1 + 1) #[.int .i64 s.i, .slice s.P.p s.P.n s.P.c, .int .i64 s.t, .int .i64 s.v, .int .i64 s.r, .slice s.L.p s.L.n s.L.c, .int .i64 s.c, .slice s.V.p s.V.n s.V.c, .slice s.N.p s.N.n s.N.c, .slice s.M.p s.M.n s.M.c]).cell? ⟨w.heap.size, 1, none⟩ = some (.slice s.P.p s.P.n s.P.c) := cell_of_row _ _ 1 _ _ _ HA0.out.seat
  have kt : ((((w.alloc (.cells #[.int .i64 s.i, .slice s.P.p s.P.n s.P.c, .int .i64 s.t, .int .i64 s.v, .int .i64 s.r, .slice s.L.p s.L.n s.L.c, .int .i64 s.c, .slice s.V.p s.V.n s.V.c, .slice s.N.p s.N.n s.N.c, .slice s.M.p s.M.n s.M.c] 25)).alloc (.cells #[.int .i64 0, .slice none 0 0, .int .i64 0, .int .i64 0, .int .i64 0, .slice none 0 0, .int .i64 0, .slice none 0 0, .slice none 0 0, .slice none 0 0] 25)).alloc (.cells #[.int .i64 0, .slice none 0 0, .int .i64 0, .int .i64 0, .int .i64 0, .slice none 0 0, .int .i64 0, .slice none 0 0, .slice none 0 0, .slice none 0 0] 25)).setRow (w.heap.size + 1 + 1) #[.int .i64 s.i, .slice s.P.p s.P.n s.P.c, .int .i64 s.t, .int .i64 s.v, .int .i64 s.r, .slice s.L.p s.L.n s.L.c, .int .i64 s.c, .slice s.V.p s.V.n s.V.c, .slice s.N.p s.N.n s.N.c, .slice s.M.p s.M.n s.M.c]).cell? ⟨w.heap.size, 2, none⟩ = some (.int .i64 s.t) := cell_of_row _ _ 2 _ _ _ HA0.out.seat
  have kv : ((((w.alloc (.cells #[.int .i64 s.i, .slice s.P.p s.P.n s.P.c, .int .i64 s.t, .int .i64 s.v, .int .i64 s.r, .slice s.L.p s.L.n s.L.c, .int .i64 s.c, .slice s.V.p s.V.n s.V.c, .slice s.N.p s.N.n s.N.c, .slice s.M.p s.M.n s.M.c] 25)).alloc (.cells #[.int .i64 0, .slice none 0 0, .int .i64 0, .int .i64 0, .int .i64 0, .slice none 0 0, .int .i64 0, .slice none 0 0, .slice none 0 0, .slice none 0 0] 25)).alloc (.cells #[.int .i64 0, .slice none 0 0, .int .i64 0, .int .i64 0, .int .i64 0, .slice none 0 0, .int .i64 0, .slice none 0 0, .slice none 0 0, .slice none 0 0] 25)).setRow (w.heap.size + 1 + 1) #[.int .i64 s.i, .slice s.P.p s.P.n s.P.c, .int .i64 s.t, .int .i64 s.v, .int .i64 s.r, .slice s.L.p s.L.n s.L.c, .int .i64 s.c, .slice s.V.p s.V.n s.V.c, .slice s.N.p s.N.n s.N.c, .slice s.M.p s.M.n s.M.c]).cell? ⟨w.heap.size, 3, none⟩ = some (.int .i64 s.v) := cell_of_row _ _ 3 _ _ _ HA0.out.seat
  have kr : ((((w.alloc (.cells #[.int .i64 s.i, .slice s.P.p s.P.n s.P.c, .int .i64 s.t, .int .i64 s.v, .int .i64 s.r, .slice s.L.p s.L.n s.L.c, .int .i64 s.c, .slice s.V.p s.V.n s.V.c, .slice s.N.p s.N.n s.N.c, .slice s.M.p s.M.n s.M.c] 25)).alloc (.cells #[.int .i64 0, .slice none 0 0, .int .i64 0, .int .i64 0, .int .i64 0, .slice none 0 0, .int .i64 0, .slice none 0 0, .slice none 0 0, .slice none 0 0] 25)).alloc (.cells #[.int .i64 0, .slice none 0 0, .int .i64 0, .int .i64 0, .int .i64 0, .slice none 0 0, .int .i64 0, .slice none 0 0, .slice none 0 0, .slice none 0 0] 25)).setRow (w.heap.size + 1 + 1) #[.int .i64 s.i, .slice s.P.p s.P.n s.P.c, .int .i64 s.t, .int .i64 s.v, .int .i64 s.r, .slice s.L.p s.L.n s.L.c, .int .i64 s.c, .slice s.V.p s.V.n s.V.c, .slice s.N.p s.N.n s.N.c, .slice s.M.p s.M.n s.M.c]).cell? ⟨w.heap.size, 4, none⟩ = some (.int .i64 s.r) := cell_of_row _ _ 4 _ _ _ HA0.out.seat
  have kL : ((((w.alloc (.cells #[.int .i64 s.i, .slice s.P.p s.P.n s.P.c, .int .i64 s.t, .int .i64 s.v, .int .i64 s.r, .slice s.L.p s.L.n s.L.c, .int .i64 s.c, .slice s.V.p s.V.n s.V.c, .slice s.N.p s.N.n s.N.c, .slice s.M.p s.M.n s.M.c] 25)).alloc (.cells #[.int .i64 0, .slice none 0 0, .int .i64 0, .int .i64 0, .int .i64 0, .slice none 0 0, .int .i64 0, .slice none 0 0, .slice none 0 0, .slice none 0 0] 25)).alloc (.cells #[.int .i64 0, .slice none 0 0, .int .i64 0, .int .i64 0, .int .i64 0, .slice none 0 0, .int .i64 0, .slice none 0 0, .slice none 0 0, .slice none 0 0] 25)).setRow (w.heap.size + 1 + 1) #[.int .i64 s.i, .slice s.P.p s.P.n s.P.c, .int .i64 s.t, .int .i64 s.v, .int .i64 s.r, .slice s.L.p s.L.n s.L.c, .int .i64 s.c, .slice s.V.p s.V.n s.V.c, .slice s.N.p s.N.n s.N.c, .slice s.M.p s.M.n s.M.c]).cell? ⟨w.heap.size, 5, none⟩ = some (.slice s.L.p s.L.n s.L.c) := cell_of_row _ _ 5 _ _ _ HA0.out.seat
  have kc : ((((w.alloc (.cells #[.int .i64 s.i, .slice s.P.p s.P.n s.P.c, .int .i64 s.t, .int .i64 s.v, .int .i64 s.r, .slice s.L.p s.L.n s.L.c, .int .i64 s.c, .slice s.V.p s.V.n s.V.c, .slice s.N.p s.N.n s.N.c, .slice s.M.p s.M.n s.M.c] 25)).alloc (.cells #[.int .i64 0, .slice none 0 0, .int .i64 0, .int .i64 0, .int .i64 0, .slice none 0 0, .int .i64 0, .slice none 0 0, .slice none 0 0, .slice none 0 0] 25)).alloc (.cells #[.int .i64 0, .slice none 0 0, .int .i64 0, .int .i64 0, .int .i64 0, .slice none 0 0, .int .i64 0, .slice none 0 0, .slice none 0 0, .slice none 0 0] 25)).setRow (w.heap.size + 1 + 1) #[.int .i64 s.i, .slice s.P.p s.P.n s.P.c, .int .i64 s.t, .int .i64 s.v, .int .i64 s.r, .slice s.L.p s.L.n s.L.c, .int .i64 s.c, .slice s.V.p s.V.n s.V.c, .slice s.N.p s.N.n s.N.c, .slice s.M.p s.M.n s.M.c]).cell? ⟨w.heap.size, 6, none⟩ = some (.int .i64 s.c) := cell_of_row _ _ 6 _ _ _ HA0.out.seat
  have kV : ((((w.alloc (.cells #[.int .i64 s.i, .slice s.P.p s.P.n s.P.c, .int .i64 s.t, .int .i64 s.v, .int .i64 s.r, .slice s.L.p s.L.n s.L.c, .int .i64 s.c, .slice s.V.p s.V.n s.V.c, .slice s.N.p s.N.n s.N.c, .slice s.M.p s.M.n s.M.c] 25)).alloc (.cells #[.int .i64 0, .slice none 0 0, .int .i64 0, .int .i64 0, .int .i64 0, .slice none 0 0, .int .i64 0, .slice none 0 0, .slice none 0 0, .slice none 0 0] 25)).alloc (.cells #[.int .i64 0, .slice none 0 0, .int .i64 0, .int .i64 0, .int .i64 0, .slice none 0 0, .int .i64 0, .slice none 0 0, .slice none 0 0, .slice none 0 0] 25)).setRow (w.heap.size + 1 + 1) #[.int .i64 s.i, .slice s.P.p s.P.n s.P.c, .int .i64 s.t, .int .i64 s.v, .int .i64 s.r, .slice s.L.p s.L.n s.L.c, .int .i64 s.c, .slice s.V.p s.V.n s.V.c, .slice s.N.p s.N.n s.N.c, .slice s.M.p s.M.n s.M.c]).cell? ⟨w.heap.size, 7, none⟩ = some (.slice s.V.p s.V.n s.V.c) := cell_of_row _ _ 7 _ _ _ HA0.out.seat
  have kN : ((((w.alloc (.cells #[.int .i64 s.i, .slice s.P.p s.P.n s.P.c, .int .i64 s.t, .int .i64 s.v, .int .i64 s.r, .slice s.L.p s.L.n s.L.c, .int .i64 s.c, .slice s.V.p s.V.n s.V.c, .slice s.N.p s.N.n s.N.c, .slice s.M.p s.M.n s.M.c] 25)).alloc (.cells #[.int .i64 0, .slice none 0 0, .int .i64 0, .int .i64 0, .int .i64 0, .slice none 0 0, .int .i64 0, .slice none 0 0, .slice none 0 0, .slice none 0 0] 25)).alloc (.cells #[.int .i64 0, .slice none 0 0, .int .i64 0, .int .i64 0, .int .i64 0, .slice none 0 0, .int .i64 0, .slice none 0 0, .slice none 0 0, .slice none 0 0] 25)).setRow (w.heap.size + 1 + 1) #[.int .i64 s.i, .slice s.P.p s.P.n s.P.c, .int .i64 s.t, .int .i64 s.v, .int .i64 s.r, .slice s.L.p s.L.n s.L.c, .int .i64 s.c, .slice s.V.p s.V.n s.V.c, .slice s.N.p s.N.n s.N.c, .slice s.M.p s.M.n s.M.c]).cell? ⟨w.heap.size, 8, none⟩ = some (.slice s.N.p s.N.n s.N.c) := cell_of_row _ _ 8 _ _ _ HA0.out.seat
  have kM : ((((w.alloc (.cells #[.int .i64 s.i, .slice s.P.p s.P.n s.P.c, .int .i64 s.t, .int .i64 s.v, .int .i64 s.r, .slice s.L.p s.L.n s.L.c, .int .i64 s.c, .slice s.V.p s.V.n s.V.c, .slice s.N.p s.N.n s.N.c, .slice s.M.p s.M.n s.M.c] 25)).alloc (.cells #[.int .i64 0, .slice none 0 0, .int .i64 0, .int .i64 0, .int .i64 0, .slice none 0 0, .int .i64 0, .slice none 0 0, .slice none 0 0, .slice none 0 0] 25)).alloc (.cells #[.int .i64 0, .slice none 0 0, .int .i64 0, .int .i64 0, .int .i64 0, .slice none 0 0, .int .i64 0, .slice none 0 0, .slice none 0 0, .slice none 0 0] 25)).setRow (w.heap.size + 1 + 1) #[.int .i64 s.i, .slice s.P.p s.P.n s.P.c, .int .i64 s.t, .int .i64 s.v, .int .i64 s.r, .slice s.L.p s.L.n s.L.c, .int .i64 s.c, .slice s.V.p s.V.n s.V.c, .slice s.N.p s.N.n s.N.c, .slice s.M.p s.M.n s.M.c]).cell? ⟨w.heap.size, 9, none⟩ = some (.slice s.M.p s.M.n s.M.c) := cell_of_row _ _ 9 _ _ _ HA0.out.seat
  clear h hlt hd1
  unfold seatA at HDN
  unfold seatA
  go_enter Try.func13, Try.ntmps13
  go_wp2_with (((with_reducible refine wpList_store_row (o := ⟨none, .store 25 (.tmp 12) (.tmp 19), _, _, _, _⟩) ?_ 25 (.tmp 12) (.tmp 19) ?_ (w.heap.size + 1 + 1) #[.int .i64 s.i, .slice s.P.p s.P.n s.P.c, .int .i64 s.t, .int .i64 s.v, .int .i64 s.r, .slice s.L.p s.L.n s.L.c, .int .i64 s.c, .slice s.V.p s.V.n s.V.c, .slice s.N.p s.N.n s.N.c, .slice s.M.p s.M.n s.M.c] ?_ ?_ 25 #[.int .i64 0, .slice none 0 0, .int .i64 0, .int .i64 0, .int .i64 0, .slice none 0 0, .int .i64 0, .slice none 0 0, .slice none 0 0, .slice none 0 0] ?_ ?_ ?_ ?_ ?_); (exact rfl); (exact rfl); (exact rfl); (exact rfl); (exact HZ.out); (exact info_seat); (exact rfl); (exact seat_one s)); generalize (((w.alloc (.cells #[.int .i64 s.i, .slice s.P.p s.P.n s.P.c, .int .i64 s.t, .int .i64 s.v, .int .i64 s.r, .slice s.L.p s.L.n s.L.c, .int .i64 s.c, .slice s.V.p s.V.n s.V.c, .slice s.N.p s.N.n s.N.c, .slice s.M.p s.M.n s.M.c] 25)).alloc (.cells #[.int .i64 0, .slice none 0 0, .int .i64 0, .int .i64 0, .int .i64 0, .slice none 0 0, .int .i64 0, .slice none 0 0, .slice none 0 0, .slice none 0 0] 25)).alloc (.cells #[.int .i64 0, .slice none 0 0, .int .i64 0, .int .i64 0, .int .i64 0, .slice none 0 0, .int .i64 0, .slice none 0 0, .slice none 0 0, .slice none 0 0] 25)).setRow (w.heap.size + 1 + 1) #[.int .i64 s.i, .slice s.P.p s.P.n s.P.c, .int .i64 s.t, .int .i64 s.v, .int .i64 s.r, .slice s.L.p s.L.n s.L.c, .int .i64 s.c, .slice s.V.p s.V.n s.V.c, .slice s.N.p s.N.n s.N.c, .slice s.M.p s.M.n s.M.c] = W0 at HA0 ki kP kt kv kr kL kc kV kN kM ⊢)
  refine (HDN.out _).mono ?_
  rintro e w1 ⟨⟨s1, rfl, hs1⟩, hx1⟩
  have HTR0 := Lib.hid hs1
  have HTR : Hid (∀ (W : World) (d' : St), SeatR W s d' → SeatR W s1 (upD d' term)) := Lib.hid (fun W d' h => by
    have e0 : upD d' term = downD d' term := by unfold upD; rw [if_pos (by rw [← h.t]; exact g2.out)]
    rw [e0]; exact HTR0.out W d' h)
  have HV : Hid (decide (d1.v = -1 ∨ d1.v = who) = decide (s1.v = -1 ∨ s1.v = who)) := Lib.hid (by rw [← HDD.out, (HTR0.out w d H.out).v])
  have HG := Lib.hid (heap_ext HA0.out.new hx1)
  have HA : Hid (RAskW w (w1.setRow (w.heap.size + 1 + 1) #[.int .i64 s1.i, .slice s1.P.p s1.P.n s1.P.c, .int .i64 s1.t, .int .i64 s1.v, .int .i64 s1.r, .slice s1.L.p s1.L.n s1.L.c, .int .i64 s1.c, .slice s1.V.p s1.V.n s1.V.c, .slice s1.N.p s1.N.n s1.N.c, .slice s1.M.p s1.M.n s1.M.c]) s s1) := Lib.hid (HA0.out.lay hx1)
  have cL0 : (w1.setRow (w.heap.size + 1 + 1) #[.int .i64 s1.i, .slice s1.P.p s1.P.n s1.P.c, .int .i64 s1.t, .int .i64 s1.v, .int .i64 s1.r, .slice s1.L.p s1.L.n s1.L.c, .int .i64 s1.c, .slice s1.V.p s1.V.n s1.V.c, .slice s1.N.p s1.N.n s1.N.c, .slice s1.M.p s1.M.n s1.M.c]).cell? ⟨w.heap.size, 5, none⟩ = some (.slice s.L.p s.L.n s.L.c) := cell_of_row _ _ 5 _ _ _ HA.out.seat
  unfold seatA
  clear hs1 hx1 HDN ki kP kt kv kr kL kc kV kN kM HA0
  go_wp2_with (((with_reducible refine wpList_store_row (o := ⟨none, .store 25 (.tmp 12) (.tmp 26), _, _, _, _⟩) ?_ 25 (.tmp 12) (.tmp 26) ?_ (w.heap.size + 1 + 1) #[.int .i64 s1.i, .slice s1.P.p s1.P.n s1.P.c, .int .i64 s1.t, .int .i64 s1.v, .int .i64 s1.r, .slice s1.L.p s1.L.n s1.L.c, .int .i64 s1.c, .slice s1.V.p s1.V.n s1.V.c, .slice s1.N.p s1.N.n s1.N.c, .slice s1.M.p s1.M.n s1.M.c] ?_ ?_ 25 #[.int .i64 s.i, .slice s.P.p s.P.n s.P.c, .int .i64 s.t, .int .i64 s.v, .int .i64 s.r, .slice s.L.p s.L.n s.L.c, .int .i64 s.c, .slice s.V.p s.V.n s.V.c, .slice s.N.p s.N.n s.N.c, .slice s.M.p s.M.n s.M.c] ?_ ?_ ?_ ?_ ?_); (exact rfl); (exact rfl); (exact rfl); (exact rfl); (exact HG.out); (exact info_seat); (exact rfl); (exact seat_one s1)); generalize w1.setRow (w.heap.size + 1 + 1) #[.int .i64 s1.i, .slice s1.P.p s1.P.n s1.P.c, .int .i64 s1.t, .int .i64 s1.v, .int .i64 s1.r, .slice s1.L.p s1.L.n s1.L.c, .int .i64 s1.c, .slice s1.V.p s1.V.n s1.V.c, .slice s1.N.p s1.N.n s1.N.c, .slice s1.M.p s1.M.n s1.M.c] = W at HA cL0 ⊢)
  have ci : W.cell? ⟨w.heap.size + 1 + 1, 0, none⟩ = some (.int .i64 s1.i) := cell_of_row _ _ 0 _ _ _ HA.out.new
  have cP : W.cell? ⟨w.heap.size + 1 + 1, 1, none⟩ = some (.slice s1.P.p s1.P.n s1.P.c) := cell_of_row _ _ 1 _ _ _ HA.out.new
  have ct : W.cell? ⟨w.heap.size + 1 + 1, 2, none⟩ = some (.int .i64 s1.t) := cell_of_row _ _ 2 _ _ _ HA.out.new
  have cv : W.cell? ⟨w.heap.size + 1 + 1, 3, none⟩ = some (.int .i64 s1.v) := cell_of_row _ _ 3 _ _ _ HA.out.new
  have cr : W.cell? ⟨w.heap.size + 1 + 1, 4, none⟩ = some (.int .i64 s1.r) := cell_of_row _ _ 4 _ _ _ HA.out.new
  have cL : W.cell? ⟨w.heap.size + 1 + 1, 5, none⟩ = some (.slice s1.L.p s1.L.n s1.L.c) := cell_of_row _ _ 5 _ _ _ HA.out.new
  have cc : W.cell? ⟨w.heap.size + 1 + 1, 6, none⟩ = some (.int .i64 s1.c) := cell_of_row _ _ 6 _ _ _ HA.out.new
  have cV : W.cell? ⟨w.heap.size + 1 + 1, 7, none⟩ = some (.slice s1.V.p s1.V.n s1.V.c) := cell_of_row _ _ 7 _ _ _ HA.out.new
  have cN : W.cell? ⟨w.heap.size + 1 + 1, 8, none⟩ = some (.slice s1.N.p s1.N.n s1.N.c) := cell_of_row _ _ 8 _ _ _ HA.out.new
  have cM : W.cell? ⟨w.heap.size + 1 + 1, 9, none⟩ = some (.slice s1.M.p s1.M.n s1.M.c) := cell_of_row _ _ 9 _ _ _ HA.out.new
  have fv : W.frozen? ⟨w.heap.size + 1 + 1, 3, none⟩ = false := (cells_ext HA.out.new (Ext.refl _)).2 3
  have HN := Lib.hid (rnewer_any s.L.p s.L.n s.L.c d.L W (H.out.ext HA.out.ext).L.1 last many)
  obtain ⟨b3, hb3⟩ : ∃ b3, newerB d.L last many = b3 := ⟨_, rfl⟩
  have HB3 := Lib.hid hb3
  rw [hb3] at HN
  clear hb3
  refine HN.out.mono ?_
  rintro e w' ⟨rfl, rfl⟩
  clear HN
  have HRES := Lib.hid HA.out.res
  have HASK : Hid (askB d term who last many = (decide (s1.v = -1 ∨ s1.v = who) && b3)) := Lib.hid (by
    unfold askB
    rw [HD1.out, decide_eq_true HT.out, HB3.out, Bool.true_and, HV.out])
  cases b3
  · have HBF : Hid (askB d term who last many = false) := Lib.hid (by rw [HASK.out]; simp)
    go_wp2_with (((with_reducible refine wpList_store_row (o := ⟨none, .store 25 (.tmp 10) (.tmp 47), _, _, _, _⟩) ?_ 25 (.tmp 10) (.tmp 47) ?_ (w.heap.size + 1) #[.int .i64 s1.i, .slice s1.P.p s1.P.n s1.P.c, .int .i64 s1.t, .int .i64 s1.v, .int .i64 s1.r, .slice s1.L.p s1.L.n s1.L.c, .int .i64 s1.c, .slice s1.V.p s1.V.n s1.V.c, .slice s1.N.p s1.N.n s1.N.c, .slice s1.M.p s1.M.n s1.M.c] ?_ ?_ 25 #[.int .i64 0, .slice none 0 0, .int .i64 0, .int .i64 0, .int .i64 0, .slice none 0 0, .int .i64 0, .slice none 0 0, .slice none 0 0, .slice none 0 0] ?_ ?_ ?_ ?_ ?_); (exact rfl); (exact rfl); (exact rfl); (exact rfl); (exact HRES.out); (exact info_seat); (exact rfl); (exact seat_one s1)))
    have HR2 := Lib.hid (setRow_heap _ _ _ #[.int .i64 s1.i, .slice s1.P.p s1.P.n s1.P.c, .int .i64 s1.t, .int .i64 s1.v, .int .i64 s1.r, .slice s1.L.p s1.L.n s1.L.c, .int .i64 s1.c, .slice s1.V.p s1.V.n s1.V.c, .slice s1.N.p s1.N.n s1.N.c, .slice s1.M.p s1.M.n s1.M.c] _ _ HRES.out)
    have X2 : Ext w (W.setRow (w.heap.size + 1) #[.int .i64 s1.i, .slice s1.P.p s1.P.n s1.P.c, .int .i64 s1.t, .int .i64 s1.v, .int .i64 s1.r, .slice s1.L.p s1.L.n s1.L.c, .int .i64 s1.c, .slice s1.V.p s1.V.n s1.V.c, .slice s1.N.p s1.N.n s1.N.c, .slice s1.M.p s1.M.n s1.M.c]) := ext_setRow HA.out.ext (by omega) _
    generalize W.setRow (w.heap.size + 1) #[.int .i64 s1.i, .slice s1.P.p s1.P.n s1.P.c, .int .i64 s1.t, .int .i64 s1.v, .int .i64 s1.r, .slice s1.L.p s1.L.n s1.L.c, .int .i64 s1.c, .slice s1.V.p s1.V.n s1.V.c, .slice s1.N.p s1.N.n s1.N.c, .slice s1.M.p s1.M.n s1.M.c] = W2 at HR2 X2 ⊢
    have ri : W2.cell? ⟨w.heap.size + 1, 0, none⟩ = some (.int .i64 s1.i) := cell_of_row _ _ 0 _ _ _ HR2.out
    have rP : W2.cell? ⟨w.heap.size + 1, 1, none⟩ = some (.slice s1.P.p s1.P.n s1.P.c) := cell_of_row _ _ 1 _ _ _ HR2.out
    have rt : W2.cell? ⟨w.heap.size + 1, 2, none⟩ = some (.int .i64 s1.t) := cell_of_row _ _ 2 _ _ _ HR2.out
    have rv : W2.cell? ⟨w.heap.size + 1, 3, none⟩ = some (.int .i64 s1.v) := cell_of_row _ _ 3 _ _ _ HR2.out
    have rr : W2.cell? ⟨w.heap.size + 1, 4, none⟩ = some (.int .i64 s1.r) := cell_of_row _ _ 4 _ _ _ HR2.out
    have rL : W2.cell? ⟨w.heap.size + 1, 5, none⟩ = some (.slice s1.L.p s1.L.n s1.L.c) := cell_of_row _ _ 5 _ _ _ HR2.out
    have rc : W2.cell? ⟨w.heap.size + 1, 6, none⟩ = some (.int .i64 s1.c) := cell_of_row _ _ 6 _ _ _ HR2.out
    have rV : W2.cell? ⟨w.heap.size + 1, 7, none⟩ = some (.slice s1.V.p s1.V.n s1.V.c) := cell_of_row _ _ 7 _ _ _ HR2.out
    have rN : W2.cell? ⟨w.heap.size + 1, 8, none⟩ = some (.slice s1.N.p s1.N.n s1.N.c) := cell_of_row _ _ 8 _ _ _ HR2.out
    have rM : W2.cell? ⟨w.heap.size + 1, 9, none⟩ = some (.slice s1.M.p s1.M.n s1.M.c) := cell_of_row _ _ 9 _ _ _ HR2.out
    go_wp2
    rw [HBF.out]
    refine bodyPost_ret (v := .tuple #[.agg (seatA s1), .bool false]) (by simp [results, Try.results13, go_sem, seatA, ri, rP, rt, rv, rr, rL, rc, rV, rN, rM]) rfl ⟨⟨_, rfl, fun W d' h => ?_⟩, X2⟩
    have h2 := HTR.out W d' h
    have e0 : askD d' false term who = upD d' term := rfl
    show SeatR W s1 (askD d' false term who)
    rw [e0]; exact h2
  by_cases h1 : s1.v = -1
  · have e1 : (s1.v == -1) = true := by simp [h1]
    have H1 := Lib.hid h1
    clear h1
    have HBF : Hid (askB d term who last many = true) := Lib.hid (by rw [HASK.out, decide_eq_true (.inl H1.out)]; rfl)
    have HRES2 : Hid ((W.setCell ⟨w.heap.size + 1 + 1, 3, none⟩ (.int .i64 who)).heap[w.heap.size + 1]? = some (.cells #[.int .i64 0, .slice none 0 0, .int .i64 0, .int .i64 0, .int .i64 0, .slice none 0 0, .int .i64 0, .slice none 0 0, .slice none 0 0, .slice none 0 0] 25 (0, 0))) := Lib.hid (by rw [Below.heap_setCell _ _ _ _ (by simp)]; exact HRES.out)
    go_wp2_with (((with_reducible refine wpList_store_row (o := ⟨none, .store 25 (.tmp 10) (.tmp 46), _, _, _, _⟩) ?_ 25 (.tmp 10) (.tmp 46) ?_ (w.heap.size + 1) #[.int .i64 s1.i, .slice s1.P.p s1.P.n s1.P.c, .int .i64 s1.t, .int .i64 who, .int .i64 s1.r, .slice s1.L.p s1.L.n s1.L.c, .int .i64 s1.c, .slice s1.V.p s1.V.n s1.V.c, .slice s1.N.p s1.N.n s1.N.c, .slice s1.M.p s1.M.n s1.M.c] ?_ ?_ 25 #[.int .i64 0, .slice none 0 0, .int .i64 0, .int .i64 0, .int .i64 0, .slice none 0 0, .int .i64 0, .slice none 0 0, .slice none 0 0, .slice none 0 0] ?_ ?_ ?_ ?_ ?_); (exact rfl); (exact rfl); (exact rfl); (exact rfl); (exact HRES2.out); (exact info_seat); (exact rfl); (exact seat_one { s1 with v := who })))
    have HR2 := Lib.hid (setRow_heap _ _ _ #[.int .i64 s1.i, .slice s1.P.p s1.P.n s1.P.c, .int .i64 s1.t, .int .i64 who, .int .i64 s1.r, .slice s1.L.p s1.L.n s1.L.c, .int .i64 s1.c, .slice s1.V.p s1.V.n s1.V.c, .slice s1.N.p s1.N.n s1.N.c, .slice s1.M.p s1.M.n s1.M.c] _ _ HRES2.out)
    have X2 : Ext w ((W.setCell ⟨w.heap.size + 1 + 1, 3, none⟩ (.int .i64 who)).setRow (w.heap.size + 1) #[.int .i64 s1.i, .slice s1.P.p s1.P.n s1.P.c, .int .i64 s1.t, .int .i64 who, .int .i64 s1.r, .slice s1.L.p s1.L.n s1.L.c, .int .i64 s1.c, .slice s1.V.p s1.V.n s1.V.c, .slice s1.N.p s1.N.n s1.N.c, .slice s1.M.p s1.M.n s1.M.c]) := ext_setRow (Below.setCell HA.out.ext (p := ⟨w.heap.size + 1 + 1, 3, none⟩) (by simp; omega) _) (by omega) _
    generalize (W.setCell ⟨w.heap.size + 1 + 1, 3, none⟩ (.int .i64 who)).setRow (w.heap.size + 1) #[.int .i64 s1.i, .slice s1.P.p s1.P.n s1.P.c, .int .i64 s1.t, .int .i64 who, .int .i64 s1.r, .slice s1.L.p s1.L.n s1.L.c, .int .i64 s1.c, .slice s1.V.p s1.V.n s1.V.c, .slice s1.N.p s1.N.n s1.N.c, .slice s1.M.p s1.M.n s1.M.c] = W2 at HR2 X2 ⊢
    have ri : W2.cell? ⟨w.heap.size + 1, 0, none⟩ = some (.int .i64 s1.i) := cell_of_row _ _ 0 _ _ _ HR2.out
    have rP : W2.cell? ⟨w.heap.size + 1, 1, none⟩ = some (.slice s1.P.p s1.P.n s1.P.c) := cell_of_row _ _ 1 _ _ _ HR2.out
    have rt : W2.cell? ⟨w.heap.size + 1, 2, none⟩ = some (.int .i64 s1.t) := cell_of_row _ _ 2 _ _ _ HR2.out
    have rv : W2.cell? ⟨w.heap.size + 1, 3, none⟩ = some (.int .i64 who) := cell_of_row _ _ 3 _ _ _ HR2.out
    have rr : W2.cell? ⟨w.heap.size + 1, 4, none⟩ = some (.int .i64 s1.r) := cell_of_row _ _ 4 _ _ _ HR2.out
    have rL : W2.cell? ⟨w.heap.size + 1, 5, none⟩ = some (.slice s1.L.p s1.L.n s1.L.c) := cell_of_row _ _ 5 _ _ _ HR2.out
    have rc : W2.cell? ⟨w.heap.size + 1, 6, none⟩ = some (.int .i64 s1.c) := cell_of_row _ _ 6 _ _ _ HR2.out
    have rV : W2.cell? ⟨w.heap.size + 1, 7, none⟩ = some (.slice s1.V.p s1.V.n s1.V.c) := cell_of_row _ _ 7 _ _ _ HR2.out
    have rN : W2.cell? ⟨w.heap.size + 1, 8, none⟩ = some (.slice s1.N.p s1.N.n s1.N.c) := cell_of_row _ _ 8 _ _ _ HR2.out
    have rM : W2.cell? ⟨w.heap.size + 1, 9, none⟩ = some (.slice s1.M.p s1.M.n s1.M.c) := cell_of_row _ _ 9 _ _ _ HR2.out
    go_wp2
    rw [HBF.out]
    refine bodyPost_ret (v := .tuple #[.agg (seatA { s1 with v := who }), .bool true]) (by simp [results, Try.results13, go_sem, seatA, ri, rP, rt, rv, rr, rL, rc, rV, rN, rM]) rfl ⟨⟨_, rfl, fun W d' h => ?_⟩, X2⟩
    have h2 := HTR.out W d' h
    have e0 : askD d' true term who = { upD d' term with v := who } := rfl
    show SeatR W { s1 with v := who } (askD d' true term who)
    rw [e0]; exact ⟨h2.i, h2.t, rfl, h2.r, h2.c, h2.P, h2.L, h2.V, h2.N, h2.M⟩
  have e1 : (s1.v == -1) = false := by simp [h1]
  have H1 := Lib.hid h1
  clear h1
  by_cases h2 : s1.v = who
  · have e2 : (s1.v == who) = true := by simp [h2]
    have H2 := Lib.hid h2
    clear h2
    have HBF : Hid (askB d term who last many = true) := Lib.hid (by rw [HASK.out, decide_eq_true (.inr H2.out)]; rfl)
    have HRES2 : Hid ((W.setCell ⟨w.heap.size + 1 + 1, 3, none⟩ (.int .i64 who)).heap[w.heap.size + 1]? = some (.cells #[.int .i64 0, .slice none 0 0, .int .i64 0, .int .i64 0, .int .i64 0, .slice none 0 0, .int .i64 0, .slice none 0 0, .slice none 0 0, .slice none 0 0] 25 (0, 0))) := Lib.hid (by rw [Below.heap_setCell _ _ _ _ (by simp)]; exact HRES.out)
    go_wp2_with (((with_reducible refine wpList_store_row (o := ⟨none, .store 25 (.tmp 10) (.tmp 46), _, _, _, _⟩) ?_ 25 (.tmp 10) (.tmp 46) ?_ (w.heap.size + 1) #[.int .i64 s1.i, .slice s1.P.p s1.P.n s1.P.c, .int .i64 s1.t, .int .i64 who, .int .i64 s1.r, .slice s1.L.p s1.L.n s1.L.c, .int .i64 s1.c, .slice s1.V.p s1.V.n s1.V.c, .slice s1.N.p s1.N.n s1.N.c, .slice s1.M.p s1.M.n s1.M.c] ?_ ?_ 25 #[.int .i64 0, .slice none 0 0, .int .i64 0, .int .i64 0, .int .i64 0, .slice none 0 0, .int .i64 0, .slice none 0 0, .slice none 0 0, .slice none 0 0] ?_ ?_ ?_ ?_ ?_); (exact rfl); (exact rfl); (exact rfl); (exact rfl); (exact HRES2.out); (exact info_seat); (exact rfl); (exact seat_one { s1 with v := who })))
    have HR2 := Lib.hid (setRow_heap _ _ _ #[.int .i64 s1.i, .slice s1.P.p s1.P.n s1.P.c, .int .i64 s1.t, .int .i64 who, .int .i64 s1.r, .slice s1.L.p s1.L.n s1.L.c, .int .i64 s1.c, .slice s1.V.p s1.V.n s1.V.c, .slice s1.N.p s1.N.n s1.N.c, .slice s1.M.p s1.M.n s1.M.c] _ _ HRES2.out)
    have X2 : Ext w ((W.setCell ⟨w.heap.size + 1 + 1, 3, none⟩ (.int .i64 who)).setRow (w.heap.size + 1) #[.int .i64 s1.i, .slice s1.P.p s1.P.n s1.P.c, .int .i64 s1.t, .int .i64 who, .int .i64 s1.r, .slice s1.L.p s1.L.n s1.L.c, .int .i64 s1.c, .slice s1.V.p s1.V.n s1.V.c, .slice s1.N.p s1.N.n s1.N.c, .slice s1.M.p s1.M.n s1.M.c]) := ext_setRow (Below.setCell HA.out.ext (p := ⟨w.heap.size + 1 + 1, 3, none⟩) (by simp; omega) _) (by omega) _
    generalize (W.setCell ⟨w.heap.size + 1 + 1, 3, none⟩ (.int .i64 who)).setRow (w.heap.size + 1) #[.int .i64 s1.i, .slice s1.P.p s1.P.n s1.P.c, .int .i64 s1.t, .int .i64 who, .int .i64 s1.r, .slice s1.L.p s1.L.n s1.L.c, .int .i64 s1.c, .slice s1.V.p s1.V.n s1.V.c, .slice s1.N.p s1.N.n s1.N.c, .slice s1.M.p s1.M.n s1.M.c] = W2 at HR2 X2 ⊢
    have ri : W2.cell? ⟨w.heap.size + 1, 0, none⟩ = some (.int .i64 s1.i) := cell_of_row _ _ 0 _ _ _ HR2.out
    have rP : W2.cell? ⟨w.heap.size + 1, 1, none⟩ = some (.slice s1.P.p s1.P.n s1.P.c) := cell_of_row _ _ 1 _ _ _ HR2.out
    have rt : W2.cell? ⟨w.heap.size + 1, 2, none⟩ = some (.int .i64 s1.t) := cell_of_row _ _ 2 _ _ _ HR2.out
    have rv : W2.cell? ⟨w.heap.size + 1, 3, none⟩ = some (.int .i64 who) := cell_of_row _ _ 3 _ _ _ HR2.out
    have rr : W2.cell? ⟨w.heap.size + 1, 4, none⟩ = some (.int .i64 s1.r) := cell_of_row _ _ 4 _ _ _ HR2.out
    have rL : W2.cell? ⟨w.heap.size + 1, 5, none⟩ = some (.slice s1.L.p s1.L.n s1.L.c) := cell_of_row _ _ 5 _ _ _ HR2.out
    have rc : W2.cell? ⟨w.heap.size + 1, 6, none⟩ = some (.int .i64 s1.c) := cell_of_row _ _ 6 _ _ _ HR2.out
    have rV : W2.cell? ⟨w.heap.size + 1, 7, none⟩ = some (.slice s1.V.p s1.V.n s1.V.c) := cell_of_row _ _ 7 _ _ _ HR2.out
    have rN : W2.cell? ⟨w.heap.size + 1, 8, none⟩ = some (.slice s1.N.p s1.N.n s1.N.c) := cell_of_row _ _ 8 _ _ _ HR2.out
    have rM : W2.cell? ⟨w.heap.size + 1, 9, none⟩ = some (.slice s1.M.p s1.M.n s1.M.c) := cell_of_row _ _ 9 _ _ _ HR2.out
    go_wp2
    rw [HBF.out]
    refine bodyPost_ret (v := .tuple #[.agg (seatA { s1 with v := who }), .bool true]) (by simp [results, Try.results13, go_sem, seatA, ri, rP, rt, rv, rr, rL, rc, rV, rN, rM]) rfl ⟨⟨_, rfl, fun W d' h => ?_⟩, X2⟩
    have h2 := HTR.out W d' h
    have e0 : askD d' true term who = { upD d' term with v := who } := rfl
    show SeatR W { s1 with v := who } (askD d' true term who)
    rw [e0]; exact ⟨h2.i, h2.t, rfl, h2.r, h2.c, h2.P, h2.L, h2.V, h2.N, h2.M⟩
  have e2 : (s1.v == who) = false := by simp [h2]
  have H2 := Lib.hid h2
  clear h2
  have HBF : Hid (askB d term who last many = false) := Lib.hid (by rw [HASK.out, decide_eq_false (fun h => h.elim H1.out H2.out)]; rfl)
  go_wp2_with (((with_reducible refine wpList_store_row (o := ⟨none, .store 25 (.tmp 10) (.tmp 47), _, _, _, _⟩) ?_ 25 (.tmp 10) (.tmp 47) ?_ (w.heap.size + 1) #[.int .i64 s1.i, .slice s1.P.p s1.P.n s1.P.c, .int .i64 s1.t, .int .i64 s1.v, .int .i64 s1.r, .slice s1.L.p s1.L.n s1.L.c, .int .i64 s1.c, .slice s1.V.p s1.V.n s1.V.c, .slice s1.N.p s1.N.n s1.N.c, .slice s1.M.p s1.M.n s1.M.c] ?_ ?_ 25 #[.int .i64 0, .slice none 0 0, .int .i64 0, .int .i64 0, .int .i64 0, .slice none 0 0, .int .i64 0, .slice none 0 0, .slice none 0 0, .slice none 0 0] ?_ ?_ ?_ ?_ ?_); (exact rfl); (exact rfl); (exact rfl); (exact rfl); (exact HRES.out); (exact info_seat); (exact rfl); (exact seat_one s1)))
  have HR2 := Lib.hid (setRow_heap _ _ _ #[.int .i64 s1.i, .slice s1.P.p s1.P.n s1.P.c, .int .i64 s1.t, .int .i64 s1.v, .int .i64 s1.r, .slice s1.L.p s1.L.n s1.L.c, .int .i64 s1.c, .slice s1.V.p s1.V.n s1.V.c, .slice s1.N.p s1.N.n s1.N.c, .slice s1.M.p s1.M.n s1.M.c] _ _ HRES.out)
  have X2 : Ext w (W.setRow (w.heap.size + 1) #[.int .i64 s1.i, .slice s1.P.p s1.P.n s1.P.c, .int .i64 s1.t, .int .i64 s1.v, .int .i64 s1.r, .slice s1.L.p s1.L.n s1.L.c, .int .i64 s1.c, .slice s1.V.p s1.V.n s1.V.c, .slice s1.N.p s1.N.n s1.N.c, .slice s1.M.p s1.M.n s1.M.c]) := ext_setRow HA.out.ext (by omega) _
  generalize W.setRow (w.heap.size + 1) #[.int .i64 s1.i, .slice s1.P.p s1.P.n s1.P.c, .int .i64 s1.t, .int .i64 s1.v, .int .i64 s1.r, .slice s1.L.p s1.L.n s1.L.c, .int .i64 s1.c, .slice s1.V.p s1.V.n s1.V.c, .slice s1.N.p s1.N.n s1.N.c, .slice s1.M.p s1.M.n s1.M.c] = W2 at HR2 X2 ⊢
  have ri : W2.cell? ⟨w.heap.size + 1, 0, none⟩ = some (.int .i64 s1.i) := cell_of_row _ _ 0 _ _ _ HR2.out
  have rP : W2.cell? ⟨w.heap.size + 1, 1, none⟩ = some (.slice s1.P.p s1.P.n s1.P.c) := cell_of_row _ _ 1 _ _ _ HR2.out
  have rt : W2.cell? ⟨w.heap.size + 1, 2, none⟩ = some (.int .i64 s1.t) := cell_of_row _ _ 2 _ _ _ HR2.out
  have rv : W2.cell? ⟨w.heap.size + 1, 3, none⟩ = some (.int .i64 s1.v) := cell_of_row _ _ 3 _ _ _ HR2.out
  have rr : W2.cell? ⟨w.heap.size + 1, 4, none⟩ = some (.int .i64 s1.r) := cell_of_row _ _ 4 _ _ _ HR2.out
  have rL : W2.cell? ⟨w.heap.size + 1, 5, none⟩ = some (.slice s1.L.p s1.L.n s1.L.c) := cell_of_row _ _ 5 _ _ _ HR2.out
  have rc : W2.cell? ⟨w.heap.size + 1, 6, none⟩ = some (.int .i64 s1.c) := cell_of_row _ _ 6 _ _ _ HR2.out
  have rV : W2.cell? ⟨w.heap.size + 1, 7, none⟩ = some (.slice s1.V.p s1.V.n s1.V.c) := cell_of_row _ _ 7 _ _ _ HR2.out
  have rN : W2.cell? ⟨w.heap.size + 1, 8, none⟩ = some (.slice s1.N.p s1.N.n s1.N.c) := cell_of_row _ _ 8 _ _ _ HR2.out
  have rM : W2.cell? ⟨w.heap.size + 1, 9, none⟩ = some (.slice s1.M.p s1.M.n s1.M.c) := cell_of_row _ _ 9 _ _ _ HR2.out
  go_wp2
  rw [HBF.out]
  refine bodyPost_ret (v := .tuple #[.agg (seatA s1), .bool false]) (by simp [results, Try.results13, go_sem, seatA, ri, rP, rt, rv, rr, rL, rc, rV, rN, rM]) rfl ⟨⟨_, rfl, fun W d' h => ?_⟩, X2⟩
  have h2 := HTR.out W d' h
  have e0 : askD d' false term who = upD d' term := rfl
  show SeatR W s1 (askD d' false term who)
  rw [e0]; exact h2

theorem rask_any (s : SeatV) (d : St) (w : World) (h : SeatR w s d) (term who last many : Int) :
    Calls Try.prog 13 #[.agg (seatA s), .int .i64 term, .int .i64 who, .int .i64 last, .int .i64 many] w fun e w' => RetAsk w s (askB d term who last many) (fun d' => askD d' (askB d term who last many) term who) e w' :=
  if h1 : d.t < term then rask_up s d w h term who last many h1 else if h2 : term = d.t then rask_same s d w h term who last many h2 else rask_less s d w h term who last many (by omega)
end Go.Proofs.Ytmcenioblbcehaa.Lg
