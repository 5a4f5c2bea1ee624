/- Written bytes: slices.Backward over pieces. -/
import Derived.Test.YtcajmgdenhegjaaWrQ
import Derived.Test.YtcajmgdenhegjaaRound
import Derived.Shelf.Abstract
import Derived.Shelf.RegionOpen
import Derived.OwnWalkIn
import Derived.TacticsInMore
import Derived.LoopNIn
import Derived.LoopIn
import Derived.RangeFuncBox
namespace Go.Proofs.Ytcajmgdenhegjaa.Wr
open Go.RowKit Go.Proofs.Ytcajmgdenhegjaa Go.Shelf
set_option linter.unusedVariables false
attribute [local go_sem] Oper.semAt_some

/-- one that comes: where it stands, what it is, how it lies in the world that came in -/
structure BkX (w0 : World) (l : List Pc) where
  k : Nat
  x : Pc
  p : Option Addr
  n : Nat
  c : Nat
  at_ : l[k]? = some x
  tri : TriC w0 [.int .i64 x.i, .int .i64 x.f, .slice p n c] x.i x.f x.d p n c
def BkX.v {w0 : World} {l : List Pc} (y : BkX w0 l) : Value := .agg #[.int .i64 y.x.i, .int .i64 y.x.f, .slice y.p y.n y.c]
def encB {w0 : World} {l : List Pc} (y : BkX w0 l) : Array Value := #[.int .i64 (y.k : Int), .agg #[.int .i64 y.x.i, .int .i64 y.x.f, .slice y.p y.n y.c]]
/-- all, the last first -/
structure IsBack (w0 : World) (p : Option Addr) (l : List Pc) (bk : List (BkX w0 l)) : Prop where
  len : bk.length = l.length
  at_ : ∀ (j : Nat) (y : BkX w0 l), bk[j]? = some y → y.k = l.length - 1 - j
  cells : ∀ (j : Nat) (y : BkX w0 l), bk[j]? = some y → ∃ b off, p = some ⟨b, off, none⟩ ∧ b < w0.heap.size ∧ w0.cell? ⟨b, off + y.k * 3, none⟩ = some (.int .i64 y.x.i) ∧ w0.cell? ⟨b, off + y.k * 3 + 1, none⟩ = some (.int .i64 y.x.f) ∧ w0.cell? ⟨b, off + y.k * 3 + 2, none⟩ = some (.slice y.p y.n y.c)
theorem back_ex {w0 : World} {p : Option Addr} {n : Nat} {l : List Pc} (h : LPc.Row w0 p n l) : ∃ bk : List (BkX w0 l), IsBack w0 p l bk := by
  have one : ∀ k, k < l.length → ∃ y : BkX w0 l, y.k = k ∧ ∃ b off, p = some ⟨b, off, none⟩ ∧ b < w0.heap.size ∧ w0.cell? ⟨b, off + y.k * 3, none⟩ = some (.int .i64 y.x.i) ∧ w0.cell? ⟨b, off + y.k * 3 + 1, none⟩ = some (.int .i64 y.x.f) ∧ w0.cell? ⟨b, off + y.k * 3 + 2, none⟩ = some (.slice y.p y.n y.c) := by
    intro k hk
    have hx : l[k]? = some l[k] := List.getElem?_eq_getElem hk
    obtain ⟨b, off, q, m, c, e, x0, x1, x2, tx⟩ := pc_at h hx
    exact ⟨⟨k, l[k], q, m, c, hx, tx⟩, rfl, b, off, e, World.block_lt_of_cell? _ _ x0, x0, x1, x2⟩
  have key : ∀ m, m ≤ l.length → ∃ bk : List (BkX w0 l), bk.length = m ∧ ∀ (j : Nat) (y : BkX w0 l), bk[j]? = some y → y.k = l.length - 1 - j ∧ ∃ b off, p = some ⟨b, off, none⟩ ∧ b < w0.heap.size ∧ w0.cell? ⟨b, off + y.k * 3, none⟩ = some (.int .i64 y.x.i) ∧ w0.cell? ⟨b, off + y.k * 3 + 1, none⟩ = some (.int .i64 y.x.f) ∧ w0.cell? ⟨b, off + y.k * 3 + 2, none⟩ = some (.slice y.p y.n y.c) := by
    intro m
    induction m with
    | zero => intro _; exact ⟨[], rfl, by simp⟩
    | succ m ih =>
      intro hm
      obtain ⟨bk, h1, h2⟩ := ih (by omega)
      obtain ⟨y, hy, hc⟩ := one (l.length - 1 - m) (by omega)
      refine ⟨bk ++ [y], by simp [h1], fun j z hz => ?_⟩
      by_cases hj : j < m
      · rw [List.getElem?_append_left (by omega)] at hz; exact h2 j z hz
      · rw [List.getElem?_append_right (by omega), h1] at hz
        have : j - m = 0 := by
          have := (List.getElem?_eq_some_iff.1 hz).1
          simp at this; omega
        rw [this] at hz
        simp at hz
        subst hz
        obtain rfl : j = m := by omega
        exact ⟨hy, hc⟩
  obtain ⟨bk, h1, h2⟩ := key l.length (Nat.le_refl _)
  exact ⟨bk, h1, fun j y hy => (h2 j y hy).1, fun j y hy => (h2 j y hy).2⟩

theorem backward_v (p : Option Addr) (n c : Nat) (w : World) : Calls Try.prog 36 #[.slice p n c] w fun e w' => e = .returned (.func (.func 44) #[] #[.pointer (some ⟨w.heap.size, 0, none⟩)]) ∧ w' = w.alloc (.cells #[.slice p n c] 22) := by
  go_enter Try.func36, Try.ntmps36
  go_wp2
  go_ret
  exact ⟨rfl, rfl⟩

set_option maxRecDepth 100000 in
set_option maxHeartbeats 4000000 in
theorem back_in (w0 : World) (p : Option Addr) (n c : Nat) (l : List Pc) (bk : List (BkX w0 l)) (hn : l.length = n) (hnb : n ≤ 1000) (hbk : IsBack w0 p l bk) (N l1 Bs : Nat) (J Jx : List (BkX w0 l) → World → Prop)
    (hY : ∀ pre x W, J pre W → pre.length < l.length → YieldAt Fence.wide (N - 1) Try.prog l1 (encB x) W fun e W' =>
      (e = .returned (.bool true) ∧ J (pre ++ [x]) W' ∧ Below (Bs + 1) W W') ∨ (e = .returned (.bool false) ∧ Jx (pre ++ [x]) W'))
    (W : World) (hW0 : Ext w0 W) (hB0 : w0.heap.size ≤ Bs) (hBs : W.cell? ⟨Bs, 0, none⟩ = some (.slice p n c)) (h0 : J [] W) :
    CallsIn Fence.wide N Try.prog 44 #[.func (.yield l1) #[] #[], .pointer (some ⟨Bs, 0, none⟩)] W fun e W' => (∃ v, e = .returned v) ∧
      ((∃ ys, ys = bk ∧ J ys W') ∨ (∃ pre, pre <+: bk ∧ Jx pre W')) := by
  have hw1 : IntKind.i64.wrap ((n : Int) - 1) = (n : Int) - 1 := by rw [IntKind.wrap_i64]; omega
  refine callsIn_of_wp Try.func44 rfl trivial ?_ rfl
  simp only [Try.ntmps44, List.size_toArray, List.length_cons, List.length_nil, Nat.reduceAdd, Nat.reduceSub, Array.replicate_succ, Array.replicate_zero, List.push_toArray, List.append_toArray, List.nil_append, List.cons_append]
  gi_wp2
  gi_loopw [3] (fun i wr => ∃ k : Nat, k ≤ n ∧ i = .int .i64 ((n : Int) - 1 - (k : Int)) ∧ J (bk.take k) wr ∧ Below (Bs + 1) W wr)
    (fun i _ => (intOf i + 1).toNat)
  case atStart => exact ⟨0, Nat.zero_le _, by simp, by simpa using h0, Below.refl _ _⟩
  case round =>
    obtain ⟨k, hk, rfl, hJs, hnx⟩ := hrel
    have hbox : wr.cell? ⟨Bs, 0, none⟩ = some (.slice p n c) := (hnx.cell (p := ⟨Bs, 0, none⟩) (Nat.lt_succ_self _)).trans hBs
    by_cases hlt : k < n
    · obtain ⟨y, hy⟩ : ∃ y, bk[k]? = some y := ⟨_, List.getElem?_eq_getElem (by rw [hbk.len, hn]; exact hlt)⟩
      have hyk := hbk.at_ k y hy
      obtain ⟨b, off, rfl, hb, x0, x1, x2⟩ := hbk.cells k y hy
      have hbB : b < Bs + 1 := by omega
      have c0 := (hnx.cell (p := ⟨b, off + y.k * 3, none⟩) hbB).trans (hW0.cell x0)
      have c1 := (hnx.cell (p := ⟨b, off + y.k * 3 + 1, none⟩) hbB).trans (hW0.cell x1)
      have c2 := (hnx.cell (p := ⟨b, off + y.k * 3 + 2, none⟩) hbB).trans (hW0.cell x2)
      obtain ⟨fn, tmps, assign, body, hyy, hR⟩ := hY _ y wr hJs (by rw [List.length_take, hbk.len]; omega)
      unfold encB at hyy
      have hidx : (n : Int) - 1 - (k : Int) = (y.k : Int) := by rw [hyk, hn]; omega
      rw [hidx]
      have hge : (0 : Int) ≤ (y.k : Int) := by omega
      have hltk : (y.k : Int) < (n : Int) := by rw [hyk, hn]; omega
      have hym : (n : Int) - 1 - ((k + 1 : Nat) : Int) = (y.k : Int) - 1 := by rw [hyk, hn]; omega
      have htk : bk.take (k + 1) = bk.take k ++ [y] := by rw [List.take_add_one, hy]; rfl
      have HTK := Lib.hid htk
      have HYM := Lib.hid hym
      clear htk hym hidx hyk
      gi_wp2
      refine ⟨fun h => by simp [Fence.wide] at h, hR.mono ?_⟩
      rintro e W3 (⟨rfl, hJ3, hk3⟩ | ⟨rfl, hJx3⟩)
      · gi_wp2
        go_roundw
        case rel => exact ⟨k + 1, by omega, congrArg _ HYM.out.symm, by rw [HTK.out]; exact hJ3, hnx.trans hk3⟩
        case measure => simp only [intOf]; omega
      · gi_wp2
        refine bodyPost_ret (results_none rfl _ _ _) rfl ?_
        exact ⟨⟨_, rfl⟩, .inr ⟨_, by rw [← HTK.out]; exact List.take_prefix _ _, hJx3⟩⟩
    · obtain rfl : k = n := by omega
      have hlt0 : (k : Int) - 1 - (k : Int) = -1 := by omega
      rw [hlt0]
      gi_wp2
      go_end0
      exact ⟨⟨_, rfl⟩, .inl ⟨_, rfl, by rw [List.take_of_length_le (by rw [hbk.len, hn]; omega)] at hJs; exact hJs⟩⟩
theorem back_stops (w0 : World) (p : Option Addr) (n c : Nat) (l : List Pc) (bk : List (BkX w0 l)) (hn : l.length = n) (hnb : n ≤ 1000) (hbk : IsBack w0 p l bk) (N Bs : Nat) (w : World) (hw : Ext w0 w) (hB0 : w0.heap.size ≤ Bs) (hBw : Bs < w.heap.size) (hBs : w.cell? ⟨Bs, 0, none⟩ = some (.slice p n c)) :
    SeqStopsK Fence.wide N Try.prog 44 #[.pointer (some ⟨Bs, 0, none⟩)] (encB (w0 := w0) (l := l)) (Below (Bs + 1)) (fun ys => ys = bk) (fun pre => pre <+: bk) l.length w := fun l1 J Jx W hW _ _ hY h0 =>
  back_in w0 p n c l bk hn hnb hbk N l1 Bs J Jx hY W (Ext.trans hw hW) hB0 ((hW.cell (p := ⟨Bs, 0, none⟩) hBw).trans hBs) h0
end Go.Proofs.Ytcajmgdenhegjaa.Wr
