/- Messages: the code's To and Cut. -/
import Derived.Test.YtifbmkcfgpfefaaWiD
namespace Go.Proofs.Ytifbmkcfgpfefaa.Wi
open Go.RowKit Go.Proofs.Ytifbmkcfgpfefaa Go.Shelf
set_option linter.unusedVariables false
attribute [local go_sem] Oper.semAt_some

theorem ext_keeps {B : Nat} {W W2 : World} (h : Ext W W2) : KeepsFrom B W W2 := ⟨h.size, fun k o _ hk _ => by rw [h.block k (Array.getElem?_eq_some_iff.1 hk).1]; exact hk⟩
theorem owns_ne {w : World} {base : Nat} {e : TypeId} {size n : Nat} {v : Value} {xs : List Value} (h : w.ownsRow base e size v n xs) {row : Option Nat} (hr : ∀ r, row = some r → ∃ o : Obj, w.heap[r]? = some o ∧ o.isCells = false) : v.ownBlock = none ∨ v.ownBlock ≠ row := by
  rcases h.2 with ⟨rfl, _⟩ | ⟨g, cap, cur, rfl, hb, hg, _⟩
  · exact .inl rfl
  · refine .inr (fun e => ?_)
    obtain ⟨o, ho, hc⟩ := hr g e.symm
    rw [hg] at ho
    cases ho
    cases hc
/-- a row of one's own, past what no cells are -/
theorem own_past {α : Type} {E : Lay α} {w W W' : World} {base : Nat} {e : TypeId} {v : Value} {l : List α} {row : Option Nat} (h : E.Own W base e v l) (hg : W.grownBy W' row) (hr : ∀ r, row = some r → ∃ o : Obj, W.heap[r]? = some o ∧ o.isCells = false)
    (hk : ∀ vs w1, E.AllK W v.ownBlock vs l → W.grownBy w1 row → E.AllK w1 v.ownBlock vs l) : E.Own W' base e v l := by
  obtain ⟨vs, h1, h2⟩ := h
  exact ⟨vs, h1.kept hg (owns_ne h1 hr), hk vs W' h2 hg⟩
theorem heap_past {W W' : World} {b : Nat} {cs : Array Value} {t : TypeId} {fr : Nat × Nat} {row : Option Nat} (h : W.heap[b]? = some (.cells cs t fr)) (hg : W.grownBy W' row) (hr : ∀ r, row = some r → ∃ o : Obj, W.heap[r]? = some o ∧ o.isCells = false) : W'.heap[b]? = some (.cells cs t fr) := by
  rw [hg.block b (Array.getElem?_eq_some_iff.1 h).1 (fun e => by
    obtain ⟨o, ho, hc⟩ := hr b e.symm
    rw [h] at ho; cases ho; cases hc)]
  exact h
theorem keeps_grown {B : Nat} {W W' : World} {base : Nat} {e : TypeId} {size n : Nat} {v : Value} {xs : List Value} (h : W.ownsRow base e size v n xs) (hg : W.grownBy W' v.ownBlock) : KeepsFrom B W W' :=
  ⟨hg.size, fun k o _ hk hc => by
    rw [hg.block k (Array.getElem?_eq_some_iff.1 hk).1 (fun e => by
      rcases owns_ne h (row := some k) (fun r e' => by cases e'; exact ⟨o, hk, hc⟩) with h | h
      · rw [h] at e; cases e
      · exact h e.symm)]
    exact hk⟩
/-- what a round leaves: one more in the row, whose variable is at b -/
theorem round_keep {α : Type} {E : Lay α} {W w3 : World} {cs : Array Value} {t e : TypeId} {b n base : Nat} {v v2 : Value} {l l2 : List α} (hown : E.Own (W.alloc (.cells cs t)) base e v l) (hown2 : E.Own w3 base e v2 l2) (hg : (W.alloc (.cells cs t)).grownBy w3 v.ownBlock)
    (hb : b < n) (hn : n ≤ base) (hW : base ≤ W.heap.size) (hc : W.cell? ⟨b, 0, none⟩ = some v) (hf : W.frozen? ⟨b, 0, none⟩ = false) :
    (w3.cell? ⟨b, 0, none⟩ = some v ∧ w3.frozen? ⟨b, 0, none⟩ = false) ∧ ((w3.setCell ⟨b, 0, none⟩ v2).cell? ⟨b, 0, none⟩ = some v2 ∧ (w3.setCell ⟨b, 0, none⟩ v2).frozen? ⟨b, 0, none⟩ = false) ∧
    KeepsFrom base W (w3.setCell ⟨b, 0, none⟩ v2) ∧ KeepX b n W (w3.setCell ⟨b, 0, none⟩ v2) ∧ w3.grownBy (w3.setCell ⟨b, 0, none⟩ v2) (some b) := by
  have hlt := hown.lt
  have hbW : b < W.heap.size := by omega
  have hblk : w3.heap[b]? = W.heap[b]? := by
    rw [hg.block b (by simp; omega) (fun e => by have := (hlt b e.symm).1; omega)]
    exact (Ext.alloc W (.cells cs t)).block b hbW
  have c3 : w3.cell? ⟨b, 0, none⟩ = some v := (World.cell?_of_block (w := W) hblk).trans hc
  have f3 : w3.frozen? ⟨b, 0, none⟩ = false := (World.frozen?_of_block (w := W) hblk).trans hf
  have hgs := Lay.grown_set w3 b 0 v2
  obtain ⟨vs, h1, _⟩ := hown
  refine ⟨⟨c3, f3⟩, ⟨World.cell?_setCell_same' _ _ _ (by rw [c3]; rfl), by rw [World.frozen?_setCell]; exact f3⟩, ?_, ?_, hgs⟩
  · exact ((ext_keeps (Ext.alloc W (.cells cs t))).trans (keeps_grown h1 hg)).trans ((KeepsOthers.setCell w3 ⟨b, 0, none⟩ v2).from base)
  · refine ((KeepX.of ((Ext.alloc W (.cells cs t)).mono (by omega))).trans (KeepX.grown hg (by simp; omega) (fun k e => .inl (by have := (hlt k e).1; omega)))).trans (KeepX.grown hgs (by have := hg.size; simp at this; omega) (fun k e => by cases e; exact .inr rfl))
/-- between two rounds of To -/
def LoopT {l : List Mg} (w5 : World) (b : Nat) (pre : List (Pl l)) (W : World) : Prop :=
  ∃ v, (W.cell? ⟨b, 0, none⟩ = some v ∧ W.frozen? ⟨b, 0, none⟩ = false) ∧ (Lay.int .i64).Own W w5.heap.size 3 v (pre.map (fun y => (y.k : Int))) ∧ KeepX b w5.heap.size w5 W
theorem loopT_from {l : List Mg} (w5 : World) (b : Nat) {B : Nat} (hb : b < w5.heap.size) (hB : w5.heap.size ≤ B) : OwnFrom B (LoopT (l := l) w5 b) := by
  rintro s W W' row ⟨v, h1, h2, h3⟩ hg hr
  have hr2 : ∀ r, row = some r → ∃ o : Obj, W.heap[r]? = some o ∧ o.isCells = false := fun r e => (hr r e).2
  refine ⟨v, ⟨cell_kept h1.1 hg hr2, (frozen_kept h1.1 hg hr2).trans h1.2⟩, ?_, h3.trans (KeepX.grown hg h3.size (fun k e => .inl (Nat.le_trans hB (hr k e).1)))⟩
  obtain ⟨vs, o1, o2⟩ := h2
  exact ⟨vs, o1.kept hg (owns_ne o1 hr2), plain_i64.k o2.all⟩
theorem to1_any (x : Mg) (p1 : Option Addr) (n1 c1 : Nat) (q1 : Option Addr) (m1 d1 : Nat) (b : Nat) (m : Int) (W : World) (h : W.cell? ⟨b, 0, none⟩ = some (.int .i64 m)) :
    Calls Try.prog 32 #[.agg #[.int .i64 x.a, .int .i64 x.b, .int .i64 x.k, .slice p1 n1 c1, .slice q1 m1 d1], .pointer (some ⟨b, 0, none⟩)] W fun e w' => e = .returned (.bool (decide (x.b = m))) ∧ Ext W w' := by
  have h2 := (Ext.alloc W (.cells #[.int .i64 x.a, .int .i64 x.b, .int .i64 x.k, .slice p1 n1 c1, .slice q1 m1 d1] 26)).cell h
  by_cases hb : x.b = m
  · have e1 : (x.b == m) = true := by simp [hb]
    rw [decide_eq_true hb]
    clear hb
    go_enter Try.func32, Try.ntmps32
    go_wp2
    go_ret
    exact ⟨rfl, Ext.alloc _ _⟩
  · have e1 : (x.b == m) = false := by simp [hb]
    rw [decide_eq_false hb]
    clear hb
    go_enter Try.func32, Try.ntmps32
    go_wp2
    go_ret
    exact ⟨rfl, Ext.alloc _ _⟩
set_option maxRecDepth 100000 in
set_option maxHeartbeats 8000000 in
theorem to_v (p : Option Addr) (n c : Nat) (l : List Mg) (m : Int) (w : World) (hl : LMg.Row w p n l) (hb : n ≤ 1000) :
    Calls Try.prog 18 #[.slice p n c, .int .i64 m] w fun e w' => (∃ v, e = .returned v ∧ (Lay.int .i64).Sl w' v (toL l m)) ∧ Ext w w' := by
  obtain ⟨i0, hi0, hzi0, hzi1, hzi2⟩ := info_parts info_int
  have HL := Lib.hid hl
  have HNB := Lib.hid hb
  have hn := hl.2.1
  refine (callsIn_wide (n := 9)).1 ?_
  refine callsIn_of_wp_marks Try.func18 rfl trivial ?_ rfl
  simp only [Try.ntmps18, List.size_toArray, List.length_cons, List.length_nil, Nat.reduceAdd, Nat.reduceSub, Array.replicate_succ, Array.replicate_zero, List.push_toArray, List.append_toArray, List.nil_append, List.cons_append]
  refine (wpIn_wide (n := 9)).2 ?_
  clear hl
  go_wp2_with fail
  refine (places_v p n c 32 #[.pointer (some ⟨w.heap.size, 0, none⟩)] _).mono ?_
  rintro e w5 ⟨rfl, hw5⟩
  simp only [World.size_alloc] at hw5 ⊢
  have hx5 : Ext w w5 := by rw [hw5]; exact Ext.trans (Ext.trans (Ext.alloc _ _) (Ext.alloc _ _)) (Ext.trans (Ext.alloc _ _) (Ext.alloc _ _))
  have hs5 : w5.heap.size = w.heap.size + 1 + 1 + 1 + 1 := by rw [hw5]; simp
  have hA : Ext ((w.alloc (.cells #[.int .i64 m] 3))) w5 := by rw [hw5]; exact Ext.trans (Ext.alloc _ _) (Ext.trans (Ext.alloc _ _) (Ext.alloc _ _))
  have hwho : w5.cell? ⟨w.heap.size, 0, none⟩ = some (.int .i64 m) := hA.cell (by rw [cell_of_row _ _ _ _ _ _ (heap_alloc_new w _)]; rfl)
  have hB : Ext ((w.alloc (.cells #[.int .i64 m] 3)).alloc (.cells #[.slice none 0 0] 23)) w5 := by rw [hw5]; exact Ext.trans (Ext.alloc _ _) (Ext.alloc _ _)
  have hlb : w5.heap[w.heap.size + 1]? = some (.cells #[.slice none 0 0] 23 (0, 0)) := by
    have h := heap_alloc_new (w.alloc (.cells #[.int .i64 m] 3)) (.cells #[.slice none 0 0] 23)
    simp only [World.size_alloc] at h
    exact heap_ext h hB
  have hC : Ext (((w.alloc (.cells #[.int .i64 m] 3)).alloc (.cells #[.slice none 0 0] 23)).alloc (.cells #[.slice p n c] 22)) w5 := by rw [hw5]; exact Ext.alloc _ _
  have c2 : w5.cell? ⟨w.heap.size + 1 + 1, 0, none⟩ = some (.slice p n c) := by
    have h := heap_alloc_new ((w.alloc (.cells #[.int .i64 m] 3)).alloc (.cells #[.slice none 0 0] 23)) (.cells #[.slice p n c] 22)
    simp only [World.size_alloc] at h
    exact hC.cell (by rw [cell_of_row _ _ _ _ _ _ h]; rfl)
  have c3 : w5.cell? ⟨w.heap.size + 1 + 1 + 1, 0, none⟩ = some (.func (.func 32) #[] #[.pointer (some ⟨w.heap.size, 0, none⟩)]) := by
    have h := heap_alloc_new (((w.alloc (.cells #[.int .i64 m] 3)).alloc (.cells #[.slice none 0 0] 23)).alloc (.cells #[.slice p n c] 22)) (.cells #[.func (.func 32) #[] #[.pointer (some ⟨w.heap.size, 0, none⟩)]] 57)
    simp only [World.size_alloc] at h
    rw [hw5]
    rw [cell_of_row _ _ _ _ _ _ h]; rfl
  have HX5 := Lib.hid hx5
  have HS5 := Lib.hid hs5
  have HWHO := Lib.hid hwho
  have HLB := Lib.hid hlb
  have HC2 := Lib.hid c2
  have HC3 := Lib.hid c3
  clear hw5 hx5 hs5 hA hwho hB hlb hC c2 c3
  go_wp2
  refine (wpIn_wide (n := 9)).1 ?_
  refine wpIn_rangeFunc_ownH rfl (by omega) (gf := 39) (lb := #[.pointer (some ⟨w.heap.size + 1 + 1, 0, none⟩), .pointer (some ⟨w.heap.size + 1 + 1 + 1, 0, none⟩)]) rfl trivial (enters_of Try.func39 (by kernel_rfl) rfl)
    (pl_stops w w5 p n c l HL.out hb (fun x => decide (x.b = m)) 32 #[.pointer (some ⟨w.heap.size, 0, none⟩)] (9 - 1) (w.heap.size + 1 + 1) (w.heap.size + 1 + 1 + 1) (w.heap.size + 1 + 1 + 1) (w.heap.size + 1) ⟨by omega, by omega⟩ ⟨by omega, by omega⟩ (by omega) (by omega) HX5.out (by have := HS5.out; omega) HC2.out HC3.out (enters_of Try.func32 (by kernel_rfl) rfl)
      (fun x p1 n1 c1 q1 m1 d1 W' h => to1_any x p1 n1 c1 q1 m1 d1 w.heap.size m W' ((h.cell (p := ⟨w.heap.size, 0, none⟩) (by show w.heap.size < _; omega) (by show w.heap.size ≠ _; omega)).trans HWHO.out)))
    KeepX.trans (keepX_b (by have := HS5.out; omega)) (Below.refl _ _) (fun _ => rfl)
    (LoopT w5 (w.heap.size + 1)) (fun _ _ _ => False)
    (loopT_from w5 _ (by have := HS5.out; omega) (Nat.le_refl _)) (fun cd s W W' row h => h.elim) ⟨_, ⟨by rw [cell_of_row _ _ _ _ _ _ HLB.out]; rfl, frozen_of_row _ _ _ _ _ HLB.out⟩, Lay.Own.nil _ _ _ _, KeepX.refl _ _ _⟩
    (fun y a' W => a' = { tmps := #[.slice p n c, .int .i64 m, undef, .pointer (some ⟨w.heap.size, 0, none⟩), .slice none 0 0, .pointer (some ⟨w.heap.size + 1, 0, none⟩), .int .i64 (y.k : Int), .slice p n c, .func (.func 32) #[] #[.pointer (some ⟨w.heap.size, 0, none⟩)], .func (.func 39) #[] #[.pointer (some ⟨w.heap.size + 1 + 1, 0, none⟩), .pointer (some ⟨w.heap.size + 1 + 1 + 1, 0, none⟩)], .int .i64 (y.k : Int), undef, undef, undef, undef, undef], defers := [] } ∧ (Lit.int .i64 (y.k : Int)).wf = true)
    ?hAx ?assign ?body ?done ?stop
  case hAx =>
    rintro y a' s W W' row h hg hr
    exact h
  case assign =>
    intro l1 pre y W K hi hK
    unfold encK
    gi_wp2
    exact hK _ _ (KeepsFrom.refl _ _) (KeepX.refl _ _ _) hi ⟨rfl, by have h1 := (List.getElem?_eq_some_iff.1 y.at_).1; have h2 := HL.out.1; have h3 := HNB.out; simp [Lit.wf, IntKind.min, IntKind.max, IntKind.signed, IntKind.bits]; omega⟩
  case body =>
    rintro l1 pre y a' W hl1 hlp ⟨v, hv1, hv2, hv3⟩ ⟨rfl, hyy⟩ hlt
    refine wpIn_block ?_
    refine region_round_list (by kernel_rfl) (fun _ _ h => h) ?_
    have HV1 := Lib.hid hv1
    have HV2 := Lib.hid hv2
    have HV3 := Lib.hid hv3
    have cb := (Ext.alloc W (.cells #[.int .i64 (y.k : Int)] 3)).cell hv1.1
    have cb0 := hv1.1
    have hlen := hlt
    have HLEN : Hid ((pre.map (fun y => (y.k : Int))).length ≤ 1000) := Lib.hid (by rw [List.length_map]; have := HL.out.1; have := HNB.out; omega)
    have HYY := Lib.hid hyy
    have HOA : Hid ((Lay.int .i64).Own (W.alloc (.cells #[.int .i64 (y.k : Int)] 3)) w5.heap.size 3 v (pre.map (fun y => (y.k : Int)))) := Lib.hid (hv2.ext (Ext.alloc _ _))
    clear hv1 hv2 hv3 hlen hyy
    go_wp2_with (at_builtin; refine Lay.wpList_append2 (E := Lay.int .i64) rfl (.tmp 11) (.tmp 13) 23 rfl w5.heap.size 3 i0 (.int .i64 0) 8 Try.underlying23 hi0 hzi0 hzi1 hzi2 rfl v (pre.map (fun y => (y.k : Int))) rfl HOA.out (some ⟨W.heap.size, 0, none⟩) 1 1 [(y.k : Int)] rfl (fun _ => ⟨_, _, rfl⟩) (Nat.le_refl _) (plain_i64.lit (Ext.refl _) (Lay.All.single ⟨rfl, HYY.out⟩) rfl rfl (by decide)) (by have := HLEN.out; unfold maxLen; omega) (by have := HLEN.out; omega) (by have := HV3.out.size; simp; omega) ?_; intro v2 w3 hown2 hg2 hb2; obtain ⟨pv2, nv2, cv2, rfl⟩ := own_form hown2; have HRK := Lib.hid (round_keep (b := w.heap.size + 1) (n := w5.heap.size) HOA.out hown2 hg2 (by have := HS5.out; omega) (Nat.le_refl _) HV3.out.size HV1.out.1 HV1.out.2); have z0 := HRK.out.1.1; have q0 := HRK.out.1.2; have HO2 := Lib.hid hown2; clear hown2 hg2 hb2 cb cb0)
    refine ⟨HRK.out.2.2.1, by have h := HRK.out.2.2.2.1; rw [HS5.out] at h; exact h, _, HRK.out.2.1, ?_, HV3.out.trans HRK.out.2.2.2.1⟩
    have h := Lay.Own.kept plain_i64 HO2.out HRK.out.2.2.2.2 (fun e => by have := (HO2.out.lt _ e).1; have := HS5.out; omega)
    simpa using h
  case done =>
    rintro D ys W hD hys ⟨v, hv1, hv2, hv3⟩ hK
    have HYS := Lib.hid hys
    have cb := hv1.1
    have HV1 := Lib.hid hv1
    have HV2 := Lib.hid hv2
    have HV3 := Lib.hid hv3
    have HKD := Lib.hid hK
    clear hv1 hv2 hv3 hK
    clear hys
    go_wp2
    have hgD := grownBy_putObj' W D (.deferred none)
    have hrD : ∀ r, some D = some r → ∃ o : Obj, W.heap[r]? = some o ∧ o.isCells = false := fun r e => by cases e; exact ⟨_, HKD.out, rfl⟩
    have hxW : Ext w W := HV3.out.ext HX5.out (by have := HS5.out; omega) (by omega)
    have hx11 : Ext w (W.putObj D (.deferred none)) := Lay.grown_old hxW (fun k e => by cases e; have := HS5.out; omega) hgD
    obtain ⟨vs, o1, o2⟩ := HV2.out
    have hown : (Lay.int .i64).Own (W.putObj D (.deferred none)) w5.heap.size 3 v (ys.map (fun y => (y.k : Int))) := ⟨vs, o1.kept hgD (owns_ne o1 hrD), plain_i64.k o2.all⟩
    have hto : toL l m = ys.map (fun y => (y.k : Int)) := by
      unfold toL
      rw [← HYS.out.ks, List.map_map]; rfl
    refine ⟨by simp, .inl ⟨_, _, rfl, run_takeDeferred HKD.out, ?_⟩⟩
    refine ⟨v, ?_, ⟨_, rfl, by rw [hto]; exact hown.sl⟩, hx11⟩
    simp [results, Try.f18, go_sem]
  case stop =>
    rintro D cd pre W hD hs h
    exact h.elim
end Go.Proofs.Ytifbmkcfgpfefaa.Wi
