/- Votes: are seats the same. -/
import Derived.Test.YtmcenioblbcehaaVoteD
namespace Go.Proofs.Ytmcenioblbcehaa.Lg
open Go.RowKit Go.Proofs.Ytmcenioblbcehaa
set_option linter.unusedVariables false

theorem St.ext_ {d e : St} (h1 : d.i = e.i) (h2 : d.t = e.t) (h3 : d.v = e.v) (h4 : d.r = e.r) (h5 : d.c = e.c) (h6 : d.P = e.P) (h7 : d.L = e.L) (h8 : d.V = e.V) (h9 : d.N = e.N) (h10 : d.M = e.M) : d = e := by
  cases d; cases e; simp_all

set_option maxRecDepth 100000 in
set_option maxHeartbeats 4000000 in
theorem rsame_any (s1 s2 : SeatV) (d1 d2 : St) (w : World) (h1 : SeatR w s1 d1) (h2 : SeatR w s2 d2) :
    Calls Try.prog 15 #[.agg (seatA s1), .agg (seatA s2)] w fun e w' => Tells (d1 = d2) w e w' := by
  have H1 := Lib.hid h1
  have H2 := Lib.hid h2
  clear h1 h2
  unfold seatA
  go_enter Try.func15, Try.ntmps15
  have hx : Ext ((w.alloc (.cells #[.int .i64 s1.i, .slice s1.P.p s1.P.n s1.P.c, .int .i64 s1.t, .int .i64 s1.v, .int .i64 s1.r, .slice s1.L.p s1.L.n s1.L.c, .int .i64 s1.c, .slice s1.V.p s1.V.n s1.V.c, .slice s1.N.p s1.N.n s1.N.c, .slice s1.M.p s1.M.n s1.M.c] 25)).alloc (.cells #[.int .i64 s2.i, .slice s2.P.p s2.P.n s2.P.c, .int .i64 s2.t, .int .i64 s2.v, .int .i64 s2.r, .slice s2.L.p s2.L.n s2.L.c, .int .i64 s2.c, .slice s2.V.p s2.V.n s2.V.c, .slice s2.N.p s2.N.n s2.N.c, .slice s2.M.p s2.M.n s2.M.c] 25)) ((w.alloc (.cells #[.int .i64 s1.i, .slice s1.P.p s1.P.n s1.P.c, .int .i64 s1.t, .int .i64 s1.v, .int .i64 s1.r, .slice s1.L.p s1.L.n s1.L.c, .int .i64 s1.c, .slice s1.V.p s1.V.n s1.V.c, .slice s1.N.p s1.N.n s1.N.c, .slice s1.M.p s1.M.n s1.M.c] 25)).alloc (.cells #[.int .i64 s2.i, .slice s2.P.p s2.P.n s2.P.c, .int .i64 s2.t, .int .i64 s2.v, .int .i64 s2.r, .slice s2.L.p s2.L.n s2.L.c, .int .i64 s2.c, .slice s2.V.p s2.V.n s2.V.c, .slice s2.N.p s2.N.n s2.N.c, .slice s2.M.p s2.M.n s2.M.c] 25)) := Ext.refl _
  have hw : Ext w ((w.alloc (.cells #[.int .i64 s1.i, .slice s1.P.p s1.P.n s1.P.c, .int .i64 s1.t, .int .i64 s1.v, .int .i64 s1.r, .slice s1.L.p s1.L.n s1.L.c, .int .i64 s1.c, .slice s1.V.p s1.V.n s1.V.c, .slice s1.N.p s1.N.n s1.N.c, .slice s1.M.p s1.M.n s1.M.c] 25)).alloc (.cells #[.int .i64 s2.i, .slice s2.P.p s2.P.n s2.P.c, .int .i64 s2.t, .int .i64 s2.v, .int .i64 s2.r, .slice s2.L.p s2.L.n s2.L.c, .int .i64 s2.c, .slice s2.V.p s2.V.n s2.V.c, .slice s2.N.p s2.N.n s2.N.c, .slice s2.M.p s2.M.n s2.M.c] 25)) := Ext.trans (Ext.alloc _ _) (Ext.alloc _ _)
  have B1 : ∀ i, ((w.alloc (.cells #[.int .i64 s1.i, .slice s1.P.p s1.P.n s1.P.c, .int .i64 s1.t, .int .i64 s1.v, .int .i64 s1.r, .slice s1.L.p s1.L.n s1.L.c, .int .i64 s1.c, .slice s1.V.p s1.V.n s1.V.c, .slice s1.N.p s1.N.n s1.N.c, .slice s1.M.p s1.M.n s1.M.c] 25)).alloc (.cells #[.int .i64 s2.i, .slice s2.P.p s2.P.n s2.P.c, .int .i64 s2.t, .int .i64 s2.v, .int .i64 s2.r, .slice s2.L.p s2.L.n s2.L.c, .int .i64 s2.c, .slice s2.V.p s2.V.n s2.V.c, .slice s2.N.p s2.N.n s2.N.c, .slice s2.M.p s2.M.n s2.M.c] 25)).cell? ⟨w.heap.size, i, none⟩ = (#[.int .i64 s1.i, .slice s1.P.p s1.P.n s1.P.c, .int .i64 s1.t, .int .i64 s1.v, .int .i64 s1.r, .slice s1.L.p s1.L.n s1.L.c, .int .i64 s1.c, .slice s1.V.p s1.V.n s1.V.c, .slice s1.N.p s1.N.n s1.N.c, .slice s1.M.p s1.M.n s1.M.c] : Array Value)[i]? := fun i => by
    have h : ((w.alloc (.cells #[.int .i64 s1.i, .slice s1.P.p s1.P.n s1.P.c, .int .i64 s1.t, .int .i64 s1.v, .int .i64 s1.r, .slice s1.L.p s1.L.n s1.L.c, .int .i64 s1.c, .slice s1.V.p s1.V.n s1.V.c, .slice s1.N.p s1.N.n s1.N.c, .slice s1.M.p s1.M.n s1.M.c] 25)).alloc (.cells #[.int .i64 s2.i, .slice s2.P.p s2.P.n s2.P.c, .int .i64 s2.t, .int .i64 s2.v, .int .i64 s2.r, .slice s2.L.p s2.L.n s2.L.c, .int .i64 s2.c, .slice s2.V.p s2.V.n s2.V.c, .slice s2.N.p s2.N.n s2.N.c, .slice s2.M.p s2.M.n s2.M.c] 25)).heap[w.heap.size]? = some (.cells #[.int .i64 s1.i, .slice s1.P.p s1.P.n s1.P.c, .int .i64 s1.t, .int .i64 s1.v, .int .i64 s1.r, .slice s1.L.p s1.L.n s1.L.c, .int .i64 s1.c, .slice s1.V.p s1.V.n s1.V.c, .slice s1.N.p s1.N.n s1.N.c, .slice s1.M.p s1.M.n s1.M.c] 25 (0, 0)) := by
      rw [Below.heap_alloc _ _ _ (by simp), heap_alloc_new]
    exact cell_of_row _ _ _ _ _ _ h
  have B2 : ∀ i, ((w.alloc (.cells #[.int .i64 s1.i, .slice s1.P.p s1.P.n s1.P.c, .int .i64 s1.t, .int .i64 s1.v, .int .i64 s1.r, .slice s1.L.p s1.L.n s1.L.c, .int .i64 s1.c, .slice s1.V.p s1.V.n s1.V.c, .slice s1.N.p s1.N.n s1.N.c, .slice s1.M.p s1.M.n s1.M.c] 25)).alloc (.cells #[.int .i64 s2.i, .slice s2.P.p s2.P.n s2.P.c, .int .i64 s2.t, .int .i64 s2.v, .int .i64 s2.r, .slice s2.L.p s2.L.n s2.L.c, .int .i64 s2.c, .slice s2.V.p s2.V.n s2.V.c, .slice s2.N.p s2.N.n s2.N.c, .slice s2.M.p s2.M.n s2.M.c] 25)).cell? ⟨w.heap.size + 1, i, none⟩ = (#[.int .i64 s2.i, .slice s2.P.p s2.P.n s2.P.c, .int .i64 s2.t, .int .i64 s2.v, .int .i64 s2.r, .slice s2.L.p s2.L.n s2.L.c, .int .i64 s2.c, .slice s2.V.p s2.V.n s2.V.c, .slice s2.N.p s2.N.n s2.N.c, .slice s2.M.p s2.M.n s2.M.c] : Array Value)[i]? := fun i => by
    have h : ((w.alloc (.cells #[.int .i64 s1.i, .slice s1.P.p s1.P.n s1.P.c, .int .i64 s1.t, .int .i64 s1.v, .int .i64 s1.r, .slice s1.L.p s1.L.n s1.L.c, .int .i64 s1.c, .slice s1.V.p s1.V.n s1.V.c, .slice s1.N.p s1.N.n s1.N.c, .slice s1.M.p s1.M.n s1.M.c] 25)).alloc (.cells #[.int .i64 s2.i, .slice s2.P.p s2.P.n s2.P.c, .int .i64 s2.t, .int .i64 s2.v, .int .i64 s2.r, .slice s2.L.p s2.L.n s2.L.c, .int .i64 s2.c, .slice s2.V.p s2.V.n s2.V.c, .slice s2.N.p s2.N.n s2.N.c, .slice s2.M.p s2.M.n s2.M.c] 25)).heap[w.heap.size + 1]? = some (.cells #[.int .i64 s2.i, .slice s2.P.p s2.P.n s2.P.c, .int .i64 s2.t, .int .i64 s2.v, .int .i64 s2.r, .slice s2.L.p s2.L.n s2.L.c, .int .i64 s2.c, .slice s2.V.p s2.V.n s2.V.c, .slice s2.N.p s2.N.n s2.N.c, .slice s2.M.p s2.M.n s2.M.c] 25 (0, 0)) := by
      have := heap_alloc_new (w.alloc (.cells #[.int .i64 s1.i, .slice s1.P.p s1.P.n s1.P.c, .int .i64 s1.t, .int .i64 s1.v, .int .i64 s1.r, .slice s1.L.p s1.L.n s1.L.c, .int .i64 s1.c, .slice s1.V.p s1.V.n s1.V.c, .slice s1.N.p s1.N.n s1.N.c, .slice s1.M.p s1.M.n s1.M.c] 25)) (.cells #[.int .i64 s2.i, .slice s2.P.p s2.P.n s2.P.c, .int .i64 s2.t, .int .i64 s2.v, .int .i64 s2.r, .slice s2.L.p s2.L.n s2.L.c, .int .i64 s2.c, .slice s2.V.p s2.V.n s2.V.c, .slice s2.N.p s2.N.n s2.N.c, .slice s2.M.p s2.M.n s2.M.c] 25)
      simpa using this
    exact cell_of_row _ _ _ _ _ _ h
  have HC : Hid (∀ w', Ext ((w.alloc (.cells #[.int .i64 s1.i, .slice s1.P.p s1.P.n s1.P.c, .int .i64 s1.t, .int .i64 s1.v, .int .i64 s1.r, .slice s1.L.p s1.L.n s1.L.c, .int .i64 s1.c, .slice s1.V.p s1.V.n s1.V.c, .slice s1.N.p s1.N.n s1.N.c, .slice s1.M.p s1.M.n s1.M.c] 25)).alloc (.cells #[.int .i64 s2.i, .slice s2.P.p s2.P.n s2.P.c, .int .i64 s2.t, .int .i64 s2.v, .int .i64 s2.r, .slice s2.L.p s2.L.n s2.L.c, .int .i64 s2.c, .slice s2.V.p s2.V.n s2.V.c, .slice s2.N.p s2.N.n s2.N.c, .slice s2.M.p s2.M.n s2.M.c] 25)) w' → w'.cell? ⟨w.heap.size, 0, none⟩ = some (.int .i64 s1.i) ∧ w'.cell? ⟨w.heap.size, 1, none⟩ = some (.slice s1.P.p s1.P.n s1.P.c) ∧ w'.cell? ⟨w.heap.size, 2, none⟩ = some (.int .i64 s1.t) ∧ w'.cell? ⟨w.heap.size, 3, none⟩ = some (.int .i64 s1.v) ∧ w'.cell? ⟨w.heap.size, 4, none⟩ = some (.int .i64 s1.r) ∧ w'.cell? ⟨w.heap.size, 5, none⟩ = some (.slice s1.L.p s1.L.n s1.L.c) ∧ w'.cell? ⟨w.heap.size, 6, none⟩ = some (.int .i64 s1.c) ∧ w'.cell? ⟨w.heap.size, 7, none⟩ = some (.slice s1.V.p s1.V.n s1.V.c) ∧ w'.cell? ⟨w.heap.size, 8, none⟩ = some (.slice s1.N.p s1.N.n s1.N.c) ∧ w'.cell? ⟨w.heap.size, 9, none⟩ = some (.slice s1.M.p s1.M.n s1.M.c) ∧ w'.cell? ⟨w.heap.size + 1, 0, none⟩ = some (.int .i64 s2.i) ∧ w'.cell? ⟨w.heap.size + 1, 1, none⟩ = some (.slice s2.P.p s2.P.n s2.P.c) ∧ w'.cell? ⟨w.heap.size + 1, 2, none⟩ = some (.int .i64 s2.t) ∧ w'.cell? ⟨w.heap.size + 1, 3, none⟩ = some (.int .i64 s2.v) ∧ w'.cell? ⟨w.heap.size + 1, 4, none⟩ = some (.int .i64 s2.r) ∧ w'.cell? ⟨w.heap.size + 1, 5, none⟩ = some (.slice s2.L.p s2.L.n s2.L.c) ∧ w'.cell? ⟨w.heap.size + 1, 6, none⟩ = some (.int .i64 s2.c) ∧ w'.cell? ⟨w.heap.size + 1, 7, none⟩ = some (.slice s2.V.p s2.V.n s2.V.c) ∧ w'.cell? ⟨w.heap.size + 1, 8, none⟩ = some (.slice s2.N.p s2.N.n s2.N.c) ∧ w'.cell? ⟨w.heap.size + 1, 9, none⟩ = some (.slice s2.M.p s2.M.n s2.M.c)) := Lib.hid fun w' h => ⟨h.cell (B1 0), h.cell (B1 1), h.cell (B1 2), h.cell (B1 3), h.cell (B1 4), h.cell (B1 5), h.cell (B1 6), h.cell (B1 7), h.cell (B1 8), h.cell (B1 9), h.cell (B2 0), h.cell (B2 1), h.cell (B2 2), h.cell (B2 3), h.cell (B2 4), h.cell (B2 5), h.cell (B2 6), h.cell (B2 7), h.cell (B2 8), h.cell (B2 9)⟩
  clear B1 B2
  go_wp2_with fail
  refine (rints_any _ _ _ _ _ _ _ _ _ (H1.out.P.1.ext (Ext.trans hw hx)).ints.1 (H2.out.P.1.ext (Ext.trans hw hx)).ints.1).mono ?_
  rintro e w1 ⟨rfl, hx1⟩
  replace hx := Ext.trans hx hx1
  clear hx1
  obtain ⟨QP, hQP⟩ : ∃ Q, decide (d1.P = d2.P) = Q := ⟨_, rfl⟩
  rw [hQP]
  have KP := Lib.hid hQP
  clear hQP
  obtain ⟨z1i, z1P, z1t, z1v, z1r, z1L, z1c, z1V, z1N, z1M, z2i, z2P, z2t, z2v, z2r, z2L, z2c, z2V, z2N, z2M⟩ := HC.out _ hx
  go_wp2_with fail
  refine (rlog_any _ _ _ _ _ _ _ _ _ (H1.out.L.1.ext (Ext.trans hw hx)) (H2.out.L.1.ext (Ext.trans hw hx))).mono ?_
  rintro e w1 ⟨rfl, hx1⟩
  replace hx := Ext.trans hx hx1
  clear z1i z1P z1t z1v z1r z1L z1c z1V z1N z1M z2i z2P z2t z2v z2r z2L z2c z2V z2N z2M
  clear hx1
  obtain ⟨QL, hQL⟩ : ∃ Q, decide (d1.L = d2.L) = Q := ⟨_, rfl⟩
  rw [hQL]
  have KL := Lib.hid hQL
  clear hQL
  obtain ⟨z1i, z1P, z1t, z1v, z1r, z1L, z1c, z1V, z1N, z1M, z2i, z2P, z2t, z2v, z2r, z2L, z2c, z2V, z2N, z2M⟩ := HC.out _ hx
  go_wp2_with fail
  refine (rints_any _ _ _ _ _ _ _ _ _ (H1.out.V.1.ext (Ext.trans hw hx)).ints.1 (H2.out.V.1.ext (Ext.trans hw hx)).ints.1).mono ?_
  rintro e w1 ⟨rfl, hx1⟩
  replace hx := Ext.trans hx hx1
  clear z1i z1P z1t z1v z1r z1L z1c z1V z1N z1M z2i z2P z2t z2v z2r z2L z2c z2V z2N z2M
  clear hx1
  obtain ⟨QV, hQV⟩ : ∃ Q, decide (d1.V = d2.V) = Q := ⟨_, rfl⟩
  rw [hQV]
  have KV := Lib.hid hQV
  clear hQV
  obtain ⟨z1i, z1P, z1t, z1v, z1r, z1L, z1c, z1V, z1N, z1M, z2i, z2P, z2t, z2v, z2r, z2L, z2c, z2V, z2N, z2M⟩ := HC.out _ hx
  go_wp2_with fail
  refine (rints_any _ _ _ _ _ _ _ _ _ (H1.out.N.1.ext (Ext.trans hw hx)).ints.1 (H2.out.N.1.ext (Ext.trans hw hx)).ints.1).mono ?_
  rintro e w1 ⟨rfl, hx1⟩
  replace hx := Ext.trans hx hx1
  clear z1i z1P z1t z1v z1r z1L z1c z1V z1N z1M z2i z2P z2t z2v z2r z2L z2c z2V z2N z2M
  clear hx1
  obtain ⟨QN, hQN⟩ : ∃ Q, decide (d1.N = d2.N) = Q := ⟨_, rfl⟩
  rw [hQN]
  have KN := Lib.hid hQN
  clear hQN
  obtain ⟨z1i, z1P, z1t, z1v, z1r, z1L, z1c, z1V, z1N, z1M, z2i, z2P, z2t, z2v, z2r, z2L, z2c, z2V, z2N, z2M⟩ := HC.out _ hx
  go_wp2_with fail
  refine (rints_any _ _ _ _ _ _ _ _ _ (H1.out.M.1.ext (Ext.trans hw hx)).ints.1 (H2.out.M.1.ext (Ext.trans hw hx)).ints.1).mono ?_
  rintro e w1 ⟨rfl, hx1⟩
  replace hx := Ext.trans hx hx1
  clear z1i z1P z1t z1v z1r z1L z1c z1V z1N z1M z2i z2P z2t z2v z2r z2L z2c z2V z2N z2M
  clear hx1
  obtain ⟨QM, hQM⟩ : ∃ Q, decide (d1.M = d2.M) = Q := ⟨_, rfl⟩
  rw [hQM]
  have KM := Lib.hid hQM
  clear hQM
  obtain ⟨z1i, z1P, z1t, z1v, z1r, z1L, z1c, z1V, z1N, z1M, z2i, z2P, z2t, z2v, z2r, z2L, z2c, z2V, z2N, z2M⟩ := HC.out _ hx
  cases QP
  · go_wp2
    go_ret
    exact Tells.no (fun h => of_decide_eq_false KP.out (by rw [h])) (Ext.trans hw hx)
  cases QL
  · go_wp2
    go_ret
    exact Tells.no (fun h => of_decide_eq_false KL.out (by rw [h])) (Ext.trans hw hx)
  cases QV
  · go_wp2
    go_ret
    exact Tells.no (fun h => of_decide_eq_false KV.out (by rw [h])) (Ext.trans hw hx)
  cases QN
  · go_wp2
    go_ret
    exact Tells.no (fun h => of_decide_eq_false KN.out (by rw [h])) (Ext.trans hw hx)
  cases QM
  · go_wp2
    go_ret
    exact Tells.no (fun h => of_decide_eq_false KM.out (by rw [h])) (Ext.trans hw hx)
  by_cases qi : s1.i = s2.i
  case neg =>
    have e : (s1.i == s2.i) = false := by simp [qi]
    have HQ := Lib.hid qi
    clear qi
    go_wp2
    go_ret
    exact Tells.no (fun h => HQ.out (by rw [H1.out.i, H2.out.i, h])) (Ext.trans hw hx)
  have ei : (s1.i == s2.i) = true := by simp [qi]
  have HQi := Lib.hid qi
  clear qi
  by_cases qt : s1.t = s2.t
  case neg =>
    have e : (s1.t == s2.t) = false := by simp [qt]
    have HQ := Lib.hid qt
    clear qt
    go_wp2
    go_ret
    exact Tells.no (fun h => HQ.out (by rw [H1.out.t, H2.out.t, h])) (Ext.trans hw hx)
  have et : (s1.t == s2.t) = true := by simp [qt]
  have HQt := Lib.hid qt
  clear qt
  by_cases qv : s1.v = s2.v
  case neg =>
    have e : (s1.v == s2.v) = false := by simp [qv]
    have HQ := Lib.hid qv
    clear qv
    go_wp2
    go_ret
    exact Tells.no (fun h => HQ.out (by rw [H1.out.v, H2.out.v, h])) (Ext.trans hw hx)
  have ev : (s1.v == s2.v) = true := by simp [qv]
  have HQv := Lib.hid qv
  clear qv
  by_cases qr : s1.r = s2.r
  case neg =>
    have e : (s1.r == s2.r) = false := by simp [qr]
    have HQ := Lib.hid qr
    clear qr
    go_wp2
    go_ret
    exact Tells.no (fun h => HQ.out (by rw [H1.out.r, H2.out.r, h])) (Ext.trans hw hx)
  have er : (s1.r == s2.r) = true := by simp [qr]
  have HQr := Lib.hid qr
  clear qr
  by_cases qc : s1.c = s2.c
  case neg =>
    have e : (s1.c == s2.c) = false := by simp [qc]
    have HQ := Lib.hid qc
    clear qc
    go_wp2
    go_ret
    exact Tells.no (fun h => HQ.out (by rw [H1.out.c, H2.out.c, h])) (Ext.trans hw hx)
  have ec : (s1.c == s2.c) = true := by simp [qc]
  have HQc := Lib.hid qc
  clear qc
  go_wp2
  go_ret
  exact Tells.yes (St.ext_ (by rw [← H1.out.i, ← H2.out.i, HQi.out]) (by rw [← H1.out.t, ← H2.out.t, HQt.out]) (by rw [← H1.out.v, ← H2.out.v, HQv.out]) (by rw [← H1.out.r, ← H2.out.r, HQr.out]) (by rw [← H1.out.c, ← H2.out.c, HQc.out]) (of_decide_eq_true KP.out) (of_decide_eq_true KL.out) (of_decide_eq_true KV.out) (of_decide_eq_true KN.out) (of_decide_eq_true KM.out)) (Ext.trans hw hx)
end Go.Proofs.Ytmcenioblbcehaa.Lg
