/- Votes: Fits. -/
import Derived.Test.YtmcenioblbcehaaVoteH
import Derived.Deep.QuietTactic
namespace Go.Proofs.Ytmcenioblbcehaa.Lg
open Go.RowKit Go.Proofs.Ytmcenioblbcehaa
set_option linter.unusedVariables false

/-- what the law asks of a seat -/
structure FitsP (d : St) : Prop where
  lP : d.P.length ≤ 30
  lL : d.L.length ≤ 30
  lV : d.V.length ≤ 30
  lN : d.N.length ≤ 30
  lM : d.M.length ≤ 30
  t0 : 0 ≤ d.t
  t1 : d.t ≤ 1000000
  v0 : -1 ≤ d.v
  v1 : d.v ≤ 1000000
  i0 : 0 ≤ d.i
  i1 : d.i ≤ 1000000
  up : ∀ k, k + 1 < d.P.length → at0 d.P k < at0 d.P (k + 1)
  ent : ∀ j, j < d.L.length → (d.L.getD j (0, [])).2.length ≤ 30 ∧ 0 ≤ (d.L.getD j (0, [])).1 ∧ (d.L.getD j (0, [])).1 ≤ 1000000
  has : d.i ∈ d.P
def RetFits (w : World) (d : St) (e : Ending) (w' : World) : Prop := (∃ b, e = .returned (.bool b) ∧ (b = true → FitsP d)) ∧ Ext w w'
theorem RetFits.no {w : World} {d : St} {w' : World} (hx : Ext w w') : RetFits w d (.returned (.bool false)) w' := ⟨⟨false, rfl, fun h => by cases h⟩, hx⟩
def EntsOk (l : List Ent) (n : Nat) (i : Value) : Prop := ∃ k : Nat, i = .int .i64 k ∧ k ≤ n ∧ Hid (∀ j, j < k → (l.getD j (0, [])).2.length ≤ 30 ∧ 0 ≤ (l.getD j (0, [])).1 ∧ (l.getD j (0, [])).1 ≤ 1000000)
def UpOk (l : List Int) (n : Nat) (w : World) (i : Value) (wr : World) : Prop := ∃ k : Nat, i = .int .i64 k ∧ 1 ≤ k ∧ (k ≤ n ∨ k = 1) ∧ Hid (∀ j, j + 1 < k → at0 l j < at0 l (j + 1)) ∧ Ext w wr

set_option maxRecDepth 100000 in
set_option maxHeartbeats 8000000 in
theorem fits_seat (s : SeatV) (d : St) (w : World) (h : SeatR w s d) :
    Calls Try.prog 10 #[.agg (seatA s)] w fun e w' => RetFits w d e w' := by
  have H := Lib.hid h
  have X0 : Ext w (w.alloc (.cells #[.int .i64 s.i, .slice s.P.p s.P.n s.P.c, .int .i64 s.t, .int .i64 s.v, .int .i64 s.r, .slice s.L.p s.L.n s.L.c, .int .i64 s.c, .slice s.V.p s.V.n s.V.c, .slice s.N.p s.N.n s.N.c, .slice s.M.p s.M.n s.M.c] 25)) := Ext.alloc _ _
  have HB : Hid (BoxAt (w.alloc (.cells #[.int .i64 s.i, .slice s.P.p s.P.n s.P.c, .int .i64 s.t, .int .i64 s.v, .int .i64 s.r, .slice s.L.p s.L.n s.L.c, .int .i64 s.c, .slice s.V.p s.V.n s.V.c, .slice s.N.p s.N.n s.N.c, .slice s.M.p s.M.n s.M.c] 25)) w.heap.size s) := Lib.hid (by have := heap_alloc_new w (.cells #[.int .i64 s.i, .slice s.P.p s.P.n s.P.c, .int .i64 s.t, .int .i64 s.v, .int .i64 s.r, .slice s.L.p s.L.n s.L.c, .int .i64 s.c, .slice s.V.p s.V.n s.V.c, .slice s.N.p s.N.n s.N.c, .slice s.M.p s.M.n s.M.c] 25); simpa [BoxAt, seatA] using this)
  clear h
  unfold seatA
  go_enter Try.func10, Try.ntmps10
  by_cases hlP : (30 : Int) < (s.P.n : Int)
  · go_wp2
    go_ret
    exact RetFits.no X0
  by_cases hlL : (30 : Int) < (s.L.n : Int)
  · go_wp2
    go_ret
    exact RetFits.no X0
  by_cases hlV : (30 : Int) < (s.V.n : Int)
  · go_wp2
    go_ret
    exact RetFits.no X0
  by_cases hlN : (30 : Int) < (s.N.n : Int)
  · go_wp2
    go_ret
    exact RetFits.no X0
  by_cases hlM : (30 : Int) < (s.M.n : Int)
  · go_wp2
    go_ret
    exact RetFits.no X0
  by_cases ht0 : s.t < 0
  · go_wp2
    go_ret
    exact RetFits.no X0
  by_cases ht1 : 1000000 < s.t
  · go_wp2
    go_ret
    exact RetFits.no X0
  by_cases hv0 : s.v < -1
  · go_wp2
    go_ret
    exact RetFits.no X0
  by_cases hv1 : 1000000 < s.v
  · go_wp2
    go_ret
    exact RetFits.no X0
  by_cases hi0 : s.i < 0
  · go_wp2
    go_ret
    exact RetFits.no X0
  by_cases hi1 : 1000000 < s.i
  · go_wp2
    go_ret
    exact RetFits.no X0
  have HlP := Lib.hid hlP
  have HlL := Lib.hid hlL
  have HlV := Lib.hid hlV
  have HlN := Lib.hid hlN
  have HlM := Lib.hid hlM
  have Ht0 := Lib.hid ht0
  have Ht1 := Lib.hid ht1
  have Hv0 := Lib.hid hv0
  have Hv1 := Lib.hid hv1
  have Hi0 := Lib.hid hi0
  have Hi1 := Lib.hid hi1
  go_wp2
  clear hlP hlL hlV hlN hlM ht0 ht1 hv0 hv1 hi0 hi1
  have HX0 := Lib.hid X0
  have hn30 : s.L.n ≤ 30 := by have := HlL.out; omega
  have hp30 : s.P.n ≤ 30 := by have := HlP.out; omega
  have ci : (w.alloc (.cells #[.int .i64 s.i, .slice s.P.p s.P.n s.P.c, .int .i64 s.t, .int .i64 s.v, .int .i64 s.r, .slice s.L.p s.L.n s.L.c, .int .i64 s.c, .slice s.V.p s.V.n s.V.c, .slice s.N.p s.N.n s.N.c, .slice s.M.p s.M.n s.M.c] 25)).cell? ⟨w.heap.size, 0, none⟩ = some (.int .i64 s.i) := box_val HB.out 0 rfl
  have cP : (w.alloc (.cells #[.int .i64 s.i, .slice s.P.p s.P.n s.P.c, .int .i64 s.t, .int .i64 s.v, .int .i64 s.r, .slice s.L.p s.L.n s.L.c, .int .i64 s.c, .slice s.V.p s.V.n s.V.c, .slice s.N.p s.N.n s.N.c, .slice s.M.p s.M.n s.M.c] 25)).cell? ⟨w.heap.size, 1, none⟩ = some (.slice s.P.p s.P.n s.P.c) := box_val HB.out 1 rfl
  have cL : (w.alloc (.cells #[.int .i64 s.i, .slice s.P.p s.P.n s.P.c, .int .i64 s.t, .int .i64 s.v, .int .i64 s.r, .slice s.L.p s.L.n s.L.c, .int .i64 s.c, .slice s.V.p s.V.n s.V.c, .slice s.N.p s.N.n s.N.c, .slice s.M.p s.M.n s.M.c] 25)).cell? ⟨w.heap.size, 5, none⟩ = some (.slice s.L.p s.L.n s.L.c) := box_val HB.out 5 rfl
  generalize (w.alloc (.cells #[.int .i64 s.i, .slice s.P.p s.P.n s.P.c, .int .i64 s.t, .int .i64 s.v, .int .i64 s.r, .slice s.L.p s.L.n s.L.c, .int .i64 s.c, .slice s.V.p s.V.n s.V.c, .slice s.N.p s.N.n s.N.c, .slice s.M.p s.M.n s.M.c] 25)) = W at X0 HX0 HB ci cP cL ⊢
  go_loop [3] (fun i => EntsOk d.L s.L.n i) (fun i => s.L.n - (intOf i).toNat)
  case atStart => exact ⟨0, rfl, by omega, Lib.hid (by intro j hj; omega)⟩
  case round =>
    obtain ⟨j, rfl, hj, HE⟩ := hrel
    by_cases hlt : j < s.L.n
    · have hlt' : (j : Int) < (s.L.n : Int) := by omega
      have hlt0 : (0 : Int) ≤ (j : Int) := by omega
      have gx := ent_get (l := d.L) (j := j) (by rw [H.out.L.1.1]; exact hlt)
      have HG : Hid (d.L.getD j (0, []) = d.L.getD j (0, [])) := Lib.hid rfl
      obtain ⟨x, hxd⟩ : ∃ x, d.L.getD j (0, []) = x := ⟨_, rfl⟩
      have HXD := Lib.hid hxd
      rw [hxd] at gx
      clear hxd HG
      obtain ⟨b, off, p1, n1, c1, hp, x0, x1, _, rx, _⟩ := ent_at (H.out.ext X0).L.1 gx
      have HRX := Lib.hid rx.1
      clear rx gx
      rw [hp] at cL
      clear hp
      by_cases h1 : (30 : Int) < (n1 : Int)
      · go_wp2
        go_ret
        exact RetFits.no X0
      by_cases h2 : x.1 < 0
      · go_wp2
        go_ret
        exact RetFits.no X0
      by_cases h3 : 1000000 < x.1
      · go_wp2
        go_ret
        exact RetFits.no X0
      have HOK : Hid (x.2.length ≤ 30 ∧ 0 ≤ x.1 ∧ x.1 ≤ 1000000) := Lib.hid ⟨by rw [HRX.out]; omega, by omega, by omega⟩
      go_wp2
      go_round
      case rel => exact ⟨j + 1, by go_num, by omega, Lib.hid (fun i hi => by
        by_cases e : i = j
        · subst e; rw [HXD.out]; exact HOK.out
        · exact HE.out i (by omega))⟩
      case measure => simp [intOf]; omega
    · obtain rfl : j = s.L.n := by omega
      have HEE : Hid (∀ j, j < d.L.length → (d.L.getD j (0, [])).2.length ≤ 30 ∧ 0 ≤ (d.L.getD j (0, [])).1 ∧ (d.L.getD j (0, [])).1 ≤ 1000000) := Lib.hid (by rw [H.out.L.1.1]; exact HE.out)
      clear HE hj hlt
      have HC : Hid (∀ w', Ext W w' → w'.cell? ⟨w.heap.size, 0, none⟩ = some (.int .i64 s.i) ∧ w'.cell? ⟨w.heap.size, 1, none⟩ = some (.slice s.P.p s.P.n s.P.c)) := Lib.hid fun w' h => ⟨h.cell ci, h.cell cP⟩
      have HRP : Hid (RowI .i64 W s.P.p s.P.n d.P) := Lib.hid (H.out.ext X0).P.1.ints.1
      clear ci cP X0
      go_wp2
      clear cL
      go_loopw [4] (fun i wr => UpOk d.P s.P.n W i wr) (fun i _ => s.P.n - (intOf i).toNat)
      case atStart => exact ⟨1, rfl, by omega, .inr rfl, Lib.hid (by intro j hj; omega), Ext.refl _⟩
      case round =>
        obtain ⟨k, rfl, hk0, hk, HE, hx⟩ := hrel
        obtain ⟨ci, cP⟩ := HC.out _ hx
        by_cases hlt : k < s.P.n
        · obtain ⟨b, off, hp, hc⟩ := HRP.out.2.2 (by omega)
          rw [hp] at cP
          clear hp
          obtain ⟨k, rfl⟩ : ∃ m, k = m + 1 := ⟨k - 1, by omega⟩
          have hlt' : ((k : Int) + 1) < (s.P.n : Int) := by omega
          have hlt0 : (0 : Int) ≤ (k : Int) + 1 := by omega
          have k1 : (0 : Int) ≤ (k : Int) := by omega
          have k2 : (k : Int) < (s.P.n : Int) := by omega
          have k3 : ((k : Int) + 1).toNat = k + 1 := by omega
          have cx := hx.cell (hc k (by omega))
          have cy := hx.cell (hc (k + 1) hlt)
          clear hc
          by_cases he : at0 d.P (k + 1) ≤ at0 d.P k
          · go_wp2
            go_quiet (fail)
            go_wp2
            go_ret
            exact RetFits.no (Ext.trans HX0.out (Ext.drewN hx _))
          · have HE1 := Lib.hid he
            go_wp2
            go_quiet (fail)
            go_wp2
            go_roundw
            case rel => exact ⟨k + 1 + 1, by go_num, by omega, .inl (by omega), Lib.hid (fun j hj => by
              by_cases e : j = k
              · subst e; have := HE1.out; omega
              · exact HE.out j (by omega)), Ext.drewN hx _⟩
            case measure => simp [intOf]; omega
        · have HEU : Hid (∀ j, j + 1 < d.P.length → at0 d.P j < at0 d.P (j + 1)) := Lib.hid (by
            intro j hj
            rw [H.out.P.1.1] at hj
            exact HE.out j (by omega))
          have hge : ¬ (k : Int) < (s.P.n : Int) := by omega
          go_wp2_with fail
          refine (has_any _ _ _ _ _ _ (HRP.out.ext hx)).mono ?_
          rintro e w' ⟨rfl, rfl⟩
          obtain ⟨B, hB⟩ : ∃ B, decide (s.i ∈ d.P) = B := ⟨_, rfl⟩
          have HBB := Lib.hid hB
          rw [hB]
          clear hB
          go_wp2
          go_ret
          have e := H.out
          refine ⟨⟨B, rfl, fun hb => ⟨?_, ?_, ?_, ?_, ?_, by have := Ht0.out; rw [← e.t]; omega, by have := Ht1.out; rw [← e.t]; omega, by have := Hv0.out; rw [← e.v]; omega, by have := Hv1.out; rw [← e.v]; omega, by have := Hi0.out; rw [← e.i]; omega, by have := Hi1.out; rw [← e.i]; omega, HEU.out, HEE.out, by rw [← e.i]; exact of_decide_eq_true (by rw [HBB.out]; exact hb)⟩⟩, Ext.trans HX0.out hx⟩
          · have := HlP.out; rw [e.P.1.1]; omega
          · have := HlL.out; rw [e.L.1.1]; omega
          · have := HlV.out; rw [e.V.1.1]; omega
          · have := HlN.out; rw [e.N.1.1]; omega
          · have := HlM.out; rw [e.M.1.1]; omega
end Go.Proofs.Ytmcenioblbcehaa.Lg
