/- Leases: those who share. -/
import Derived.Test.YtocnopgpdlfkjaaLeG
import Derived.Deep.RegionHeld3
namespace Go.Proofs.Ytocnopgpdlfkjaa.Ls
open Go.RowKit Go.Proofs.Ytocnopgpdlfkjaa Go.Sort
set_option linter.unusedVariables false

/-- shares of one time -/
def Shared (T : Int) (n : Nat) (L : List Le) : Prop := L.length ≤ n ∧ ∀ x ∈ L, x.k = 1 ∧ x.u = T + 3 ∧ oneB x = true
theorem one_until {q : Le} {T : Int} (h : oneB (q0 q) = true) (h0 : 0 ≤ T) (h1 : T ≤ 4398046511104) : oneB (qu q T) = true := by
  have h2 := of_decide_eq_true h
  simp only [q0, qu] at h2
  exact decide_eq_true (by simp only [qu]; omega)
theorem shared_none {T : Int} {n : Nat} {L : List Le} (h : Shared T n L) {q : Le} (hq : q.k = 1) : againstL L q = [] := by
  unfold againstL
  rw [List.filter_eq_nil_iff]
  intro x hx
  have h1 := (h.2 x hx).1
  simp [clashB, h1, hq]
theorem shared_step {T : Int} {n : Nat} {L : List Le} (h : Shared T n L) (hn : n ≤ 20) (hT : 0 ≤ T ∧ T ≤ 1099511627776) {q : Le} (hq : q.k = 1) (ho : oneB (q0 q) = true) :
    askL L T q 1 = (othersL L q ++ [qu q (T + 3)], true) ∧ Shared T (n + 1) (othersL L q ++ [qu q (T + 3)]) ∧ overL L T = L := by
  have e1 : badA q 1 = false := by unfold badA; rw [ho]; rfl
  have e2 : overL L T = L := by
    unfold overL
    rw [List.filter_eq_self]
    intro x hx
    have := (h.2 x hx).2.1
    exact decide_eq_true (by omega)
  have e3 := shared_none h hq
  have e4 : (othersL L q).length ≤ n := Nat.le_trans (List.length_filter_le _ _) h.1
  refine ⟨?_, ⟨by simp; omega, fun x hx => ?_⟩, e2⟩
  · unfold askL
    rw [e1, e2, e3, if_neg Bool.false_ne_true, if_neg (fun h => h rfl), if_neg (by omega)]
    rfl
  · rcases List.mem_append.1 hx with hx | hx
    · exact h.2 x (List.mem_filter.1 hx).1
    · obtain rfl := List.mem_singleton.1 hx
      exact ⟨hq, rfl, one_until ho (by omega) (by omega)⟩
theorem shared_right {T : Int} {n : Nat} {L : List Le} (h : Shared T n L) (hn : n ≤ 20) : rightB L = true :=
  right_yes (Nat.le_trans h.1 (by omega)) fun x hx => ⟨(h.2 x hx).2.2, shared_none h (h.2 x hx).1⟩
def ShR (w : World) (T : Int) (n : Nat) (v i : Value) (wr : World) : Prop := ∃ (k : Nat) (L : List Le), i = .int .i64 k ∧ k ≤ n ∧ LLe.Sl wr v L ∧ Hid (Shared T k L) ∧ Ext w wr

set_option maxRecDepth 100000 in
set_option maxHeartbeats 4000000 in
theorem shares_walk {p : Option Addr} {n c : Nat} {l : List Le} {w : World} (hr : LLe.Row w p n l) (now : Int) : Calls Try.prog 6 #[.slice p n c, .int .i64 now] w fun e w' => e = .returned (.bool true) ∧ Ext w w' := by
  have HP := Lib.hid hr
  have hn63 := hr.2.1
  clear hr
  by_cases h20 : n ≤ 20
  · have h20' : ¬ (20 : Int) < (n : Int) := by omega
    have H20 := Lib.hid h20
    clear h20
    have HT := Lib.hid (tmq_bd now)
    go_enter Try.func6, Try.ntmps6
    go_wp2_with fail
    refine (head_v _).mono ?_
    rintro e w1 ⟨rfl, hx1⟩
    have HX1 := Lib.hid hx1
    clear hx1
    go_wp2
    go_loopw [6, 7] (fun v i wr => ShR w (tmq now) n v i wr) (fun _ i _ => n - (intOf i).toNat)
    case atStart => exact ⟨0, [], rfl, by omega, ⟨_, _, _, rfl, Lay.Row.nil _ _ _, by omega, by omega, fun h => by omega⟩, Lib.hid ⟨by simp, by simp⟩, Ext.trans HX1.out (Ext.alloc _ _)⟩
    case round =>
      obtain ⟨k, L, rfl, hk, hs, HS, hx⟩ := hrel
      by_cases hlt : k < n
      · obtain ⟨x, gx⟩ := get_of l k (by rw [HP.out.1]; exact hlt)
        obtain ⟨b, off, rfl, hw, c0, c1, c2, c3, c4, c5, c6⟩ := le_at (HP.out.ext hx) gx
        have HW : Hid (LeWf ⟨x.c, x.i, 1, x.f, x.t, 0, x.e⟩) := Lib.hid ⟨hw.1, hw.2.1, (by decide : (Lit.int .i64 1).wf = true), hw.2.2.2.1, hw.2.2.2.2.1, (by decide : (Lit.int .i64 0).wf = true), hw.2.2.2.2.2.2⟩
        have HSL := Lib.hid hs
        obtain ⟨po, no, co, rfl, _⟩ := hs
        have hlt' : (k : Int) < (n : Int) := by omega
        have hlt0 : (0 : Int) ≤ (k : Int) := by omega
        clear gx hw
        obtain ⟨o, ho⟩ : ∃ o, oneB ⟨x.c, x.i, 1, x.f, x.t, 0, x.e⟩ = o := ⟨_, rfl⟩
        have HOO := Lib.hid ho
        have HX := Lib.hid hx
        clear ho hx
        go_wp2_with fail
        refine (rone_any ⟨x.c, x.i, 1, x.f, x.t, 0, x.e⟩ _).mono ?_
        rintro e w2 ⟨rfl, hx2⟩
        rw [HOO.out]
        obtain ⟨b0, b1, b2, b3, b4, b5, b6⟩ := box_cells wr w2 ⟨x.c, x.i, 1, x.f, x.t, 0, x.e⟩ _ hx2
        have HX2 := Lib.hid (Ext.trans (Ext.alloc _ _) hx2)
        clear hx2 c0 c1 c2 c3 c4 c5 c6
        cases o
        · go_wp2
          go_roundw
          case rel => exact ⟨k + 1, L, by go_num, by omega, HSL.out.ext HX2.out, Lib.hid ⟨Nat.le_succ_of_le HS.out.1, HS.out.2⟩, Ext.trans HX.out HX2.out⟩
          case measure => simp [intOf]; omega
        · have HSS : Hid (∀ w', Ext w2 w' → w'.cell? ⟨wr.heap.size, 0, none⟩ = some (.int .i64 x.c) ∧ w'.cell? ⟨wr.heap.size, 1, none⟩ = some (.int .i64 x.i) ∧ w'.cell? ⟨wr.heap.size, 2, none⟩ = some (.int .i64 1) ∧ w'.cell? ⟨wr.heap.size, 3, none⟩ = some (.int .i64 x.f) ∧ w'.cell? ⟨wr.heap.size, 4, none⟩ = some (.int .i64 x.t) ∧ w'.cell? ⟨wr.heap.size, 5, none⟩ = some (.int .i64 0) ∧ w'.cell? ⟨wr.heap.size, 6, none⟩ = some (.int .i64 x.e)) := Lib.hid (fun w' h => ⟨h.cell b0, h.cell b1, h.cell b2, h.cell b3, h.cell b4, h.cell b5, h.cell b6⟩)
          have hxx : Ext w2 w2.drew := Ext.drew (Ext.refl _)
          have HSL2 := Lib.hid (HSL.out.ext HX2.out)
          have hst := shared_step HS.out (by have := H20.out; omega) HT.out (q := ⟨x.c, x.i, 1, x.f, x.t, 0, x.e⟩) rfl HOO.out
          have HWN : Hid (∀ K, WhoIs L (tmq now) ⟨x.c, x.i, 1, x.f, x.t, 0, x.e⟩ 1 K → K = []) := Lib.hid (fun K h => by
            unfold WhoIs at h
            rw [hst.2.2, shared_none HS.out rfl, if_pos (.inr rfl)] at h
            exact h)
          obtain ⟨L2, hL2⟩ : ∃ L2, othersL L ⟨x.c, x.i, 1, x.f, x.t, 0, x.e⟩ ++ [qu ⟨x.c, x.i, 1, x.f, x.t, 0, x.e⟩ (tmq now + 3)] = L2 := ⟨_, rfl⟩
          rw [hL2] at hst
          have HST := Lib.hid hst
          clear hst hL2
          have HLN : Hid (L.length ≤ 1000) := Lib.hid (by have := HS.out.1; have := H20.out; omega)
          have HNW : Hid (0 ≤ tmq now ∧ tmq now ≤ 1000000000000000) := Lib.hid (by have := HT.out; omega)
          go_wp2
          go_region_held3 (fun w' => w'.cell? ⟨wr.heap.size, 0, none⟩ = some (.int .i64 x.c) ∧ w'.cell? ⟨wr.heap.size, 1, none⟩ = some (.int .i64 x.i) ∧ w'.cell? ⟨wr.heap.size, 2, none⟩ = some (.int .i64 1) ∧ w'.cell? ⟨wr.heap.size, 3, none⟩ = some (.int .i64 x.f) ∧ w'.cell? ⟨wr.heap.size, 4, none⟩ = some (.int .i64 x.t) ∧ w'.cell? ⟨wr.heap.size, 5, none⟩ = some (.int .i64 0) ∧ w'.cell? ⟨wr.heap.size, 6, none⟩ = some (.int .i64 x.e)) ((refine HSS.out _ ?_; first | (with_reducible exact hxx))) (first | (go_at_call 12; refine (time_any _ _).mono ?_; rintro e w' ⟨rfl, rfl⟩) | (go_at_call 13; refine (ask_v _ L (tmq now) ⟨x.c, x.i, 1, x.f, x.t, 0, x.e⟩ 1 _ (HSL2.out.ext hxx) HLN.out HW.out HNW.out).mono ?_; rintro e w3 ⟨⟨v, kk, K, r, rfl, hr, hs2, hk2, hwho⟩, hx3⟩; obtain rfl : r = (L2, true) := hr.trans HST.out.1; obtain rfl : K = [] := HWN.out K hwho.out; have HS2 := Lib.hid hs2; obtain ⟨p2, n2, c2, rfl, _⟩ := hs2; obtain ⟨pk, nk, ck, rfl, hkr, _⟩ := hk2; obtain rfl : 0 = nk := hkr.1; replace hxx := Ext.trans hxx hx3; clear hx3 hkr hwho hr))
          have HX3 := Lib.hid (Ext.trans HX.out (Ext.trans HX2.out hxx))
          clear hxx
          go_wp2
          go_roundw
          case rel => exact ⟨k + 1, L2, by go_num, by omega, HS2.out, Lib.hid HST.out.2.1, HX3.out⟩
          case measure => simp [intOf]; omega
      · obtain rfl : k = n := by omega
        have HSL := Lib.hid hs
        obtain ⟨po, no, co, rfl, _⟩ := hs
        have HRT := Lib.hid (shared_right HS.out H20.out)
        have HLN : Hid (L.length ≤ 100000) := Lib.hid (by have := HS.out.1; have := H20.out; omega)
        have HX := Lib.hid hx
        clear hx
        go_wp2_with fail
        refine (right_v _ L _ HSL.out HLN.out).mono ?_
        rintro e w3 ⟨rfl, hx3⟩
        rw [HRT.out]
        have HX3 := Lib.hid (Ext.trans HX.out hx3)
        clear hx3
        go_wp2
        go_ret
        exact ⟨rfl, HX3.out⟩
  · have h20' : (20 : Int) < (n : Int) := by omega
    go_enter Try.func6, Try.ntmps6
    go_wp2_with fail
    refine (head_v _).mono ?_
    rintro e w1 ⟨rfl, hx1⟩
    have HX1 := Lib.hid hx1
    clear hx1
    go_wp2
    go_ret
    exact ⟨rfl, HX1.out⟩
end Go.Proofs.Ytocnopgpdlfkjaa.Ls
