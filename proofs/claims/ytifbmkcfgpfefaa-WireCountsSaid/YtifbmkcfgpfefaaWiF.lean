/- Messages: the code's Cut. -/
import Derived.Test.YtifbmkcfgpfefaaWiE
namespace Go.Proofs.Ytifbmkcfgpfefaa
open Go.RowKit
set_option linter.unusedVariables false
namespace Lay
variable {P : Program}
/-- an append to cells of one's own, anywhere -/
theorem step_append_own {w : World} {ops : Array Oper} {o : Oper} {a : Act} {K : Act → World → Prop} {Q : Exit → Act → World → Prop} {X : Prop} (hgd : Region.wanted o (yielded ops a.tmps) = true) (s x : Operand) (t : TypeId)
    (ho : o.op = .call { callee := .builtin .append, args := #[s, x], argTypes := #[t, t] })
    (base : Nat) (e : TypeId) (i : TypeInfo) (z : Value) (size bytes : Nat) (ht : P.underlying t = some (.slice e)) (hi : P.info? e = some i) (hz : i.zero = some z)
    (hsize : i.size = size) (hby : i.bytes = bytes) (hzs : z.cells.size = size) (hpos : 0 < size)
    (v : Value) (n : Nat) (xs : List Value) (hs : a.eval s = v) (hown : w.ownsRow base e size v n xs)
    (ad : Addr) (m c : Nat) (news : List Value) (hx : a.eval x = .slice (some ad) m c) (hlen : news.length = m * size) (hn : ∀ j u, news[j]? = some u → w.cell? (ad.add j) = some u) (hone : ∀ u ∈ news, u.oneCell' = true)
    (h63 : n + m ≤ maxLen) (hbytes : (n + m) * bytes ≤ 140737488355328) (hbase : base ≤ w.heap.size)
    (h : ∀ v' w', w'.ownsRow base e size v' (n + m) (xs ++ news) → w.grownBy w' v.ownBlock → (v'.ownBlock = v.ownBlock ∨ v'.ownBlock = some w.heap.size) → K (a.put o.dst v') w') : if Region.wanted o (yielded ops a.tmps) = true then Oper.wp P o a w K Q else X := by
  rw [if_pos hgd]
  obtain ⟨v', w', hrun, h3, h4, _, h5⟩ := run_append_own_at (P := P) w base t o.type e i z size bytes ht hi hz hsize hby hzs hpos v n xs hown ad m c news hlen hn hone h63 hbytes hbase
  unfold Oper.wp execOp
  simp only [ho, resolve, invoke, builtin, Sem.run_bind, Sem.run_pure, Result.andThen_ok, List.map_toArray, List.map_cons, List.map_nil, hs, hx, hrun]
  exact h v' w' h3 h4 h5
end Lay
namespace Wi
open Go.RowKit Go.Proofs.Ytifbmkcfgpfefaa Go.Shelf
attribute [local go_sem] Oper.semAt_some
def RIdxR (w : World) (l : List Int) (m : Int) (n : Nat) (i : Value) (wr : World) : Prop :=
  ∃ j : Nat, i = .int .i64 j ∧ j ≤ n ∧ Hid (∀ s, s < j → at0 l s ≠ m) ∧ wr = w
def RetIdx (l : List Int) (m : Int) (e : Ending) : Prop := ∃ k : Int, e = .returned (.int .i64 k) ∧ (0 ≤ k ↔ inB l m = true)
set_option maxRecDepth 100000 in
theorem index_any (p : Option Addr) (n c : Nat) (l : List Int) (m : Int) (w : World) (hl : (Lay.int .i64).Row w p n l) :
    Calls Try.prog 40 #[.slice p n c, .int .i64 m] w fun e w' => RetIdx l m e ∧ w' = w := by
  have HP := Lib.hid hl.ints.1
  have hn := hl.2.1
  clear hl
  go_enter Try.func40, Try.ntmps40
  go_wp2
  go_loopw [8] (fun i wr => RIdxR w l m n i wr) (fun i _ => n - (intOf i).toNat)
  case atStart => exact ⟨0, rfl, by omega, Lib.hid (by intro j hj; omega), rfl⟩
  case round =>
    obtain ⟨j, rfl, hj, HE, rfl⟩ := hrel
    by_cases hlt : j < n
    · obtain ⟨b, off, rfl, hc⟩ := HP.out.2.2 (by omega)
      have hlt' : (j : Int) < (n : Int) := by omega
      have hlt0 : (0 : Int) ≤ (j : Int) := by omega
      have cx := hc j hlt
      clear hc
      by_cases he : at0 l j = m
      · have hb : (m == at0 l j) = true := by simp [he]
        have HE1 := Lib.hid he
        clear he
        go_wp2
        go_ret
        exact ⟨⟨_, rfl, fun _ => in_yes (by rw [HP.out.1]; exact hlt) HE1.out, fun _ => by omega⟩, rfl⟩
      · have hb : (m == at0 l j) = false := by simp; exact fun h => he h.symm
        have HE1 := Lib.hid he
        clear he
        go_wp2
        go_roundw
        case rel => exact ⟨j + 1, by go_num, by omega, Lib.hid (fun s hs => by
          by_cases e : s = j
          · subst e; exact HE1.out
          · exact HE.out s (by omega)), rfl⟩
        case measure => simp [intOf]; omega
    · obtain rfl : j = n := by omega
      go_wp2
      go_ret
      exact ⟨⟨_, rfl, fun h => by omega, fun h => by rw [in_no (fun s hs => HE.out s (by rw [HP.out.1] at hs; exact hs))] at h; cases h⟩, rfl⟩
theorem contains_any (p : Option Addr) (n c : Nat) (l : List Int) (m : Int) (w : World) (hl : (Lay.int .i64).Row w p n l) :
    Calls Try.prog 34 #[.slice p n c, .int .i64 m] w fun e w' => e = .returned (.bool (inB l m)) ∧ Ext w w' := by
  have HC := Lib.hid (index_any p n c l m w hl)
  clear hl
  obtain ⟨B, hB⟩ : ∃ B, inB l m = B := ⟨_, rfl⟩
  have HB := Lib.hid hB
  rw [hB]
  clear hB
  go_enter Try.func34, Try.ntmps34
  go_wp2_with fail
  refine HC.out.mono ?_
  rintro e w2 ⟨⟨k, rfl, hk⟩, rfl⟩
  rw [HB.out] at hk
  have hd : decide ((0 : Int) ≤ k) = B := by
    cases B
    · exact decide_eq_false (fun h => by have := hk.1 h; cases this)
    · exact decide_eq_true (hk.2 rfl)
  have HD := Lib.hid hd
  clear hk hd
  go_wp2
  go_ret
  exact ⟨ret_bool HD.out, Ext.refl _⟩
set_option maxRecDepth 100000 in
set_option maxHeartbeats 1000000 in
theorem cut1_any (x : Mg) (p1 : Option Addr) (n1 c1 : Nat) (q1 : Option Addr) (m1 d1 : Nat) (b : Nat) (q : Option Addr) (m d : Nat) (s : List Int) (W : World) (h : W.cell? ⟨b, 0, none⟩ = some (.slice q m d)) (hs : (Lay.int .i64).Row W q m s) :
    Calls Try.prog 33 #[.agg #[.int .i64 x.a, .int .i64 x.b, .int .i64 x.k, .slice p1 n1 c1, .slice q1 m1 d1], .pointer (some ⟨b, 0, none⟩)] W fun e w' => e = .returned (.bool (inB s x.a == inB s x.b)) ∧ Ext W w' := by
  have hxA : Ext W (W.alloc (.cells #[.int .i64 x.a, .int .i64 x.b, .int .i64 x.k, .slice p1 n1 c1, .slice q1 m1 d1] 26)) := Ext.alloc _ _
  have h2 := hxA.cell h
  obtain ⟨B1, hB1⟩ : ∃ B, inB s x.a = B := ⟨_, rfl⟩
  obtain ⟨B2, hB2⟩ : ∃ B, inB s x.b = B := ⟨_, rfl⟩
  have HA : Hid (∀ g : Gr (W.alloc (.cells #[.int .i64 x.a, .int .i64 x.b, .int .i64 x.k, .slice p1 n1 c1, .slice q1 m1 d1] 26)), Calls Try.prog 34 #[.slice q m d, .int .i64 x.a] g.w fun e w' => e = .returned (.bool B1) ∧ Ext g.w w') := Lib.hid fun g => by rw [← hB1]; exact contains_any q m d s x.a g.w (hs.ext (Ext.trans hxA g.h))
  have HB : Hid (∀ g : Gr (W.alloc (.cells #[.int .i64 x.a, .int .i64 x.b, .int .i64 x.k, .slice p1 n1 c1, .slice q1 m1 d1] 26)), Calls Try.prog 34 #[.slice q m d, .int .i64 x.b] g.w fun e w' => e = .returned (.bool B2) ∧ Ext g.w w') := Lib.hid fun g => by rw [← hB2]; exact contains_any q m d s x.b g.w (hs.ext (Ext.trans hxA g.h))
  have g5 := box5 (Ext.refl (W.alloc (.cells #[.int .i64 x.a, .int .i64 x.b, .int .i64 x.k, .slice p1 n1 c1, .slice q1 m1 d1] 26)))
  have e0 : ∀ g : Gr (W.alloc (.cells #[.int .i64 x.a, .int .i64 x.b, .int .i64 x.k, .slice p1 n1 c1, .slice q1 m1 d1] 26)), g.w.cell? ⟨W.heap.size, 0, none⟩ = some (.int .i64 x.a) := fun g => g.cell g5.1
  have e1 : ∀ g : Gr (W.alloc (.cells #[.int .i64 x.a, .int .i64 x.b, .int .i64 x.k, .slice p1 n1 c1, .slice q1 m1 d1] 26)), g.w.cell? ⟨W.heap.size, 1, none⟩ = some (.int .i64 x.b) := fun g => g.cell g5.2.1
  have e2 : ∀ g : Gr (W.alloc (.cells #[.int .i64 x.a, .int .i64 x.b, .int .i64 x.k, .slice p1 n1 c1, .slice q1 m1 d1] 26)), g.w.cell? ⟨b, 0, none⟩ = some (.slice q m d) := fun g => g.cell h2
  have HXA := Lib.hid hxA
  rw [hB1, hB2]
  clear h hs hB1 hB2 g5 h2 hxA
  go_enter Try.func33, Try.ntmps33
  go_wp2
  refine wp_region_grown (Ext.refl _) (by kernel_rfl) (by kernel_rfl) ?_
  repeat (go_big_quiet_step (first | (go_at_call 34; with_reducible exact Gr.of (HA.out _)) | (go_at_call 34; with_reducible exact Gr.of (HB.out _))))
  refine wpQuiet_nil ?_
  intro gw
  have hxg := gw.h
  clear e0 e1 e2
  generalize gw.w = w4 at hxg ⊢
  go_wp2
  go_ret
  exact ⟨rfl, Ext.trans HXA.out hxg⟩
/-- the call's own, out of its cells -/
theorem own_mk {w0 w : World} {base n : Nat} {v : Value} {vs : List Value} {l : List Mg} (h : w.ownsRow base 26 5 v n vs) (hn : l.length = n) (ha : LMg.All w0 vs l) (hx : Ext w0 w) (hb : w0.heap.size ≤ base) : LMg.Own w base 26 v l :=
  ⟨vs, by rw [hn]; exact h, fun w' hg => ha.ext (Lay.grown_old hx (fun k hk => Nat.le_trans hb (h.lt k hk).1) hg)⟩
/-- between two rounds of Cut -/
def LoopC {l : List Mg} (w w5 : World) (b : Nat) (pre : List (Pl l)) (W : World) : Prop :=
  ∃ v vs, (W.cell? ⟨b, 0, none⟩ = some v ∧ W.frozen? ⟨b, 0, none⟩ = false) ∧ W.ownsRow w5.heap.size 26 5 v pre.length vs ∧ LMg.All w vs (pre.map Pl.x) ∧ KeepX b w5.heap.size w5 W
theorem loopC_from {l : List Mg} (w w5 : World) (b : Nat) {B : Nat} (hb : b < w5.heap.size) (hB : w5.heap.size ≤ B) : OwnFrom B (LoopC (l := l) w w5 b) := by
  rintro s W W' row ⟨v, vs, h1, h2, h4, h3⟩ hg hr
  have hr2 : ∀ r, row = some r → ∃ o : Obj, W.heap[r]? = some o ∧ o.isCells = false := fun r e => (hr r e).2
  exact ⟨v, vs, ⟨cell_kept h1.1 hg hr2, (frozen_kept h1.1 hg hr2).trans h1.2⟩, h2.kept hg (owns_ne h2 hr2), h4, h3.trans (KeepX.grown hg h3.size (fun k e => .inl (Nat.le_trans hB (hr k e).1)))⟩
/-- what a round leaves, cells told -/
theorem round_keep2 {W Wd w3 : World} {cs : Array Value} {t e : TypeId} {b n base size k k2 : Nat} {v v2 : Value} {l l2 : List Value} (hown : (Wd.alloc (.cells cs t)).ownsRow base e size v k l) (hown2 : w3.ownsRow base e size v2 k2 l2) (hg : (Wd.alloc (.cells cs t)).grownBy w3 v.ownBlock)
    (hb : b < n) (hn : n ≤ base) (hW : base ≤ W.heap.size) (hd : Ext W Wd) (hc : W.cell? ⟨b, 0, none⟩ = some v) (hf : W.frozen? ⟨b, 0, none⟩ = false) :
    (w3.cell? ⟨b, 0, none⟩ = some v ∧ w3.frozen? ⟨b, 0, none⟩ = false) ∧ ((w3.setCell ⟨b, 0, none⟩ v2).cell? ⟨b, 0, none⟩ = some v2 ∧ (w3.setCell ⟨b, 0, none⟩ v2).frozen? ⟨b, 0, none⟩ = false) ∧
    KeepsFrom base W (w3.setCell ⟨b, 0, none⟩ v2) ∧ KeepX b n W (w3.setCell ⟨b, 0, none⟩ v2) ∧ (w3.setCell ⟨b, 0, none⟩ v2).ownsRow base e size v2 k2 l2 := by
  have hlt := hown.lt
  have hlt2 := hown2.lt
  have hx : Ext W (Wd.alloc (.cells cs t)) := Ext.trans hd (Ext.alloc _ _)
  have hsz := hx.size
  have hblk : w3.heap[b]? = W.heap[b]? := by
    rw [hg.block b (by omega) (fun e => by have := (hlt b e.symm).1; omega)]
    exact hx.block b (by omega)
  have c3 : w3.cell? ⟨b, 0, none⟩ = some v := (World.cell?_of_block (w := W) hblk).trans hc
  have f3 : w3.frozen? ⟨b, 0, none⟩ = false := (World.frozen?_of_block (w := W) hblk).trans hf
  have hgs := Lay.grown_set w3 b 0 v2
  refine ⟨⟨c3, f3⟩, ⟨World.cell?_setCell_same' _ _ _ (by rw [c3]; rfl), by rw [World.frozen?_setCell]; exact f3⟩, ?_, ?_, ?_⟩
  · exact ((ext_keeps hx).trans (keeps_grown hown hg)).trans ((KeepsOthers.setCell w3 ⟨b, 0, none⟩ v2).from base)
  · refine ((KeepX.of (hx.mono (by omega))).trans (KeepX.grown hg (by omega) (fun k e => .inl (by have := (hlt k e).1; omega)))).trans (KeepX.grown hgs (by have := hg.size; omega) (fun k e => by cases e; exact .inr rfl))
  · refine hown2.kept hgs ?_
    cases hv : v2.ownBlock with
    | none => exact .inl rfl
    | some g => exact .inr (fun e => by have := (hlt2 g hv).1; simp only [Option.some.injEq] at e; omega)
set_option maxRecDepth 100000 in
set_option maxHeartbeats 8000000 in
theorem cut_v (p : Option Addr) (n c : Nat) (l : List Mg) (q : Option Addr) (m d : Nat) (s : List Int) (w : World) (hl : LMg.Row w p n l) (hs : (Lay.int .i64).Row w q m s) (hb : n ≤ 1000) :
    Calls Try.prog 20 #[.slice p n c, .slice q m d] w fun e w' => (∃ v, e = .returned v ∧ LMg.Sl w' v (cutL l s)) ∧ Ext w w' := by
  obtain ⟨i0, hi0, hzi0, hzi1, hzi2⟩ := info_parts info_mg
  have HL := Lib.hid hl
  have HNB := Lib.hid hb
  have HSS := Lib.hid hs
  have hn := hl.2.1
  refine (callsIn_wide (n := 9)).1 ?_
  refine callsIn_of_wp_marks Try.func20 rfl trivial ?_ rfl
  simp only [Try.ntmps20, List.size_toArray, List.length_cons, List.length_nil, Nat.reduceAdd, Nat.reduceSub, Array.replicate_succ, Array.replicate_zero, List.push_toArray, List.append_toArray, List.nil_append, List.cons_append]
  refine (wpIn_wide (n := 9)).2 ?_
  clear hl hs
  go_wp2_with fail
  refine (places_v p n c 33 #[.pointer (some ⟨w.heap.size + 1, 0, none⟩)] _).mono ?_
  rintro e w5 ⟨rfl, hw5⟩
  simp only [World.size_alloc] at hw5 ⊢
  obtain ⟨wA, hwA⟩ : ∃ wA, w.alloc (.cells #[.slice p n c] 22) = wA := ⟨_, rfl⟩
  obtain ⟨wB, hwB⟩ : ∃ wB, wA.alloc (.cells #[.slice q m d] 23) = wB := ⟨_, rfl⟩
  obtain ⟨wC, hwC⟩ : ∃ wC, wB.alloc (.cells #[.slice none 0 0] 22) = wC := ⟨_, rfl⟩
  obtain ⟨wD, hwD⟩ : ∃ wD, wC.alloc (.cells #[.slice p n c] 22) = wD := ⟨_, rfl⟩
  rw [hwA, hwB, hwC, hwD] at hw5
  have sA : wA.heap.size = w.heap.size + 1 := by rw [← hwA]; simp
  have sB : wB.heap.size = w.heap.size + 1 + 1 := by rw [← hwB]; simp; omega
  have sC : wC.heap.size = w.heap.size + 1 + 1 + 1 := by rw [← hwC]; simp; omega
  have sD : wD.heap.size = w.heap.size + 1 + 1 + 1 + 1 := by rw [← hwD]; simp; omega
  have s5 : w5.heap.size = w.heap.size + 1 + 1 + 1 + 1 + 1 := by rw [hw5]; simp; omega
  have xD : Ext wD w5 := by rw [hw5]; exact Ext.alloc _ _
  have xC : Ext wC w5 := Ext.trans (by rw [← hwD]; exact Ext.alloc _ _) xD
  have xB : Ext wB w5 := Ext.trans (by rw [← hwC]; exact Ext.alloc _ _) xC
  have xA : Ext wA w5 := Ext.trans (by rw [← hwB]; exact Ext.alloc _ _) xB
  have hx5 : Ext w w5 := Ext.trans (by rw [← hwA]; exact Ext.alloc _ _) xA
  have h0 : w5.heap[w.heap.size]? = some (.cells #[.slice p n c] 22 (0, 0)) := heap_ext (by rw [← hwA]; exact heap_alloc_new w _) xA
  have h1 : w5.heap[w.heap.size + 1]? = some (.cells #[.slice q m d] 23 (0, 0)) := heap_ext (by rw [← hwB, ← sA]; exact heap_alloc_new wA _) xB
  have h2 : w5.heap[w.heap.size + 1 + 1]? = some (.cells #[.slice none 0 0] 22 (0, 0)) := heap_ext (by rw [← hwC, ← sB]; exact heap_alloc_new wB _) xC
  have h3 : w5.heap[w.heap.size + 1 + 1 + 1]? = some (.cells #[.slice p n c] 22 (0, 0)) := heap_ext (by rw [← hwD, ← sC]; exact heap_alloc_new wC _) xD
  have h4 : w5.heap[w.heap.size + 1 + 1 + 1 + 1]? = some (.cells #[.func (.func 33) #[] #[.pointer (some ⟨w.heap.size + 1, 0, none⟩)]] 57 (0, 0)) := by rw [hw5, ← sD]; exact heap_alloc_new wD _
  have HX5 := Lib.hid hx5
  have HS5 := Lib.hid s5
  have H0 := Lib.hid h0
  have H1 := Lib.hid h1
  have H2 := Lib.hid h2
  have H3 := Lib.hid h3
  have H4 := Lib.hid h4
  clear hw5 hwA hwB hwC hwD sA sB sC sD s5 xA xB xC xD hx5 h0 h1 h2 h3 h4
  go_wp2
  refine (wpIn_wide (n := 9)).1 ?_
  refine wpIn_rangeFunc_ownH rfl (by omega) (gf := 39) (lb := #[.pointer (some ⟨w.heap.size + 1 + 1 + 1, 0, none⟩), .pointer (some ⟨w.heap.size + 1 + 1 + 1 + 1, 0, none⟩)]) rfl trivial (enters_of Try.func39 (by kernel_rfl) rfl)
    (pl_stops w w5 p n c l HL.out hb (fun x => inB s x.a == inB s x.b) 33 #[.pointer (some ⟨w.heap.size + 1, 0, none⟩)] (9 - 1) (w.heap.size + 1 + 1 + 1) (w.heap.size + 1 + 1 + 1 + 1) (w.heap.size + 1 + 1 + 1 + 1) (w.heap.size + 1 + 1) ⟨by omega, by omega⟩ ⟨by omega, by omega⟩ (by omega) (by omega) HX5.out (by have := HS5.out; omega) (by rw [cell_of_row _ _ _ _ _ _ H3.out]; rfl) (by rw [cell_of_row _ _ _ _ _ _ H4.out]; rfl) (enters_of Try.func33 (by kernel_rfl) rfl)
      (fun x p1 n1 c1 q1 m1 d1 W' h => cut1_any x p1 n1 c1 q1 m1 d1 (w.heap.size + 1) q m d s W' ((h.cell (p := ⟨w.heap.size + 1, 0, none⟩) (by show w.heap.size + 1 < _; omega) (by show w.heap.size + 1 ≠ _; omega)).trans (by rw [cell_of_row _ _ _ _ _ _ H1.out]; rfl)) (HSS.out.ext (h.ext HX5.out (by omega) (by omega)))))
    KeepX.trans (keepX_b (by have := HS5.out; omega)) (Below.refl _ _) (fun _ => rfl)
    (LoopC w w5 (w.heap.size + 1 + 1)) (fun _ _ _ => False)
    (loopC_from w w5 _ (by have := HS5.out; omega) (Nat.le_refl _)) (fun cd s W W' row h => h.elim) ⟨_, [], ⟨by rw [cell_of_row _ _ _ _ _ _ H2.out]; rfl, frozen_of_row _ _ _ _ _ H2.out⟩, World.ownsRow_nil _ _ _ _, rfl, KeepX.refl _ _ _⟩
    (fun y a' W => a' = { tmps := #[.slice p n c, .slice q m d, .pointer (some ⟨w.heap.size, 0, none⟩), .pointer (some ⟨w.heap.size + 1, 0, none⟩), .slice none 0 0, .func (.func 33) #[] #[.pointer (some ⟨w.heap.size + 1, 0, none⟩)], .pointer (some ⟨w.heap.size + 1 + 1, 0, none⟩), .int .i64 (y.k : Int), .func (.func 33) #[] #[.pointer (some ⟨w.heap.size + 1, 0, none⟩)], .slice p n c, .func (.func 33) #[] #[.pointer (some ⟨w.heap.size + 1, 0, none⟩)], .func (.func 39) #[] #[.pointer (some ⟨w.heap.size + 1 + 1 + 1, 0, none⟩), .pointer (some ⟨w.heap.size + 1 + 1 + 1 + 1, 0, none⟩)], .int .i64 (y.k : Int), undef, undef, undef, undef, undef, undef, undef, undef], defers := [] })
    ?hAx ?assign ?body ?done ?stop
  case hAx =>
    rintro y a' s W W' row h hg hr
    exact h
  case assign =>
    intro l1 pre y W K hi hK
    unfold encK
    gi_wp2
    exact hK _ _ (KeepsFrom.refl _ _) (KeepX.refl _ _ _) hi rfl
  case body =>
    rintro l1 pre y a' W hl1 hlp ⟨v, vs, hv1, hv2, hv4, hv3⟩ rfl hlt
    refine wpIn_block ?_
    have HV1 := Lib.hid hv1
    have HV2 := Lib.hid hv2
    have HV3 := Lib.hid hv3
    have HV4 := Lib.hid hv4
    obtain ⟨b, off, p1, n1, c1, q1, m1, d1, rfl, x0, x1, x2, x3, x4, tx⟩ := mg_at HL.out y.at_
    have HT := Lib.hid tx
    have HBW : Hid (b < w.heap.size) := Lib.hid (World.block_lt_of_cell? _ _ x0)
    have hxW : Ext w W := hv3.ext HX5.out (by have := HS5.out; omega) (by omega)
    have HXW := Lib.hid hxW
    have hk1 : y.k < n := by have h1 := (List.getElem?_eq_some_iff.1 y.at_).1; have h2 := HL.out.1; omega
    have hk2 : (y.k : Int) < (n : Int) := by omega
    have hk0 : (0 : Int) ≤ (y.k : Int) := by omega
    have HLEN : Hid (pre.length ≤ 1000) := Lib.hid (by have := HL.out.1; have := HNB.out; omega)
    have ct : W.cell? ⟨w.heap.size, 0, none⟩ = some (.slice (some ⟨b, off, none⟩) n c) := (hv3.cell (p := ⟨w.heap.size, 0, none⟩) (by have := HS5.out; show w.heap.size < _; omega) (by show w.heap.size ≠ _; omega)).trans (by rw [cell_of_row _ _ _ _ _ _ H0.out]; rfl)
    obtain ⟨Wd, hWd⟩ : ∃ Wd, W.drew = Wd := ⟨_, rfl⟩
    have hxd : Ext W Wd := by rw [← hWd]; exact Ext.drew (Ext.refl _)
    have HXD := Lib.hid hxd
    have HSA : Hid (∀ w', Ext Wd w' → (fun w' : World => w'.cell? ⟨w.heap.size, 0, none⟩ = some (.slice (some ⟨b, off, none⟩) n c) ∧ w'.cell? ⟨b, off + y.k * 5, none⟩ = some (.int .i64 y.x.a) ∧ w'.cell? ⟨b, off + y.k * 5 + 1, none⟩ = some (.int .i64 y.x.b) ∧ w'.cell? ⟨b, off + y.k * 5 + 2, none⟩ = some (.int .i64 y.x.k) ∧ w'.cell? ⟨b, off + y.k * 5 + 3, none⟩ = some (.slice p1 n1 c1) ∧ w'.cell? ⟨b, off + y.k * 5 + 4, none⟩ = some (.slice q1 m1 d1)) w') := Lib.hid fun w' h => (by have hx := Ext.trans hxd h; have hy := Ext.trans hxW hx; exact ⟨hx.cell ct, hy.cell x0, hy.cell x1, hy.cell x2, hy.cell x3, hy.cell x4⟩)
    have HCB : Hid (Wd.cell? ⟨w.heap.size + 1 + 1, 0, none⟩ = some v) := Lib.hid (hxd.cell hv1.1)
    have HOW : Hid ((Wd.alloc (.cells #[.int .i64 y.x.a, .int .i64 y.x.b, .int .i64 y.x.k, .slice p1 n1 c1, .slice q1 m1 d1] 26)).ownsRow w5.heap.size 26 5 v pre.length vs) := Lib.hid (own_ext hv2 (Ext.trans hxd (Ext.alloc _ _)))
    have HPL : Hid (y.k < n) := Lib.hid hk1
    clear hv1 hv2 hv3 hv4 x0 x1 x2 x3 x4 tx hxW hxd ct hk1
    refine region_round_held (fun w' : World => w'.cell? ⟨w.heap.size, 0, none⟩ = some (.slice (some ⟨b, off, none⟩) n c) ∧ w'.cell? ⟨b, off + y.k * 5, none⟩ = some (.int .i64 y.x.a) ∧ w'.cell? ⟨b, off + y.k * 5 + 1, none⟩ = some (.int .i64 y.x.b) ∧ w'.cell? ⟨b, off + y.k * 5 + 2, none⟩ = some (.int .i64 y.x.k) ∧ w'.cell? ⟨b, off + y.k * 5 + 3, none⟩ = some (.slice p1 n1 c1) ∧ w'.cell? ⟨b, off + y.k * 5 + 4, none⟩ = some (.slice q1 m1 d1)) (by kernel_rfl) (by kernel_rfl) (fun _ _ h => h) ?_
    rw [hWd]
    clear hWd
    refine wpAnyH_take (i := 1) (oi := ⟨some 14, _, _, _, _, _⟩) (v := .slice (some ⟨b, off, none⟩) n c) rfl (by kernel_rfl) (by kernel_rfl) (by kernel_rfl) (fun _ _ _ h => h) (Or.inl ⟨by rfl, ?_⟩) (HSA.out _ (Ext.refl _)) ?_
    · rintro w' ⟨t1, t2, t3, t4, t5, t6⟩
      go_simp
    try simp only [Act.put, List.setIfInBounds_toArray, List.set_cons_zero, List.set_cons_succ]
    refine wpAnyH_take (i := 2) (oi := ⟨some 15, _, _, _, _, _⟩) (v := .int .i64 (y.k : Int)) rfl (by kernel_rfl) (by kernel_rfl) (by kernel_rfl) (fun _ _ _ h => h) (Or.inl ⟨by rfl, ?_⟩) (HSA.out _ (Ext.refl _)) ?_
    · rintro w' ⟨t1, t2, t3, t4, t5, t6⟩
      go_simp
    try simp only [Act.put, List.setIfInBounds_toArray, List.set_cons_zero, List.set_cons_succ]
    refine wpAnyH_take (i := 3) (oi := ⟨some 16, _, _, _, _, _⟩) (v := .pointer (some ⟨b, off + y.k * 5, none⟩)) rfl (by kernel_rfl) (by kernel_rfl) (by kernel_rfl) (fun _ _ _ h => h) (Or.inl ⟨by rfl, ?_⟩) (HSA.out _ (Ext.refl _)) ?_
    · rintro w' ⟨t1, t2, t3, t4, t5, t6⟩
      go_simp
    try simp only [Act.put, List.setIfInBounds_toArray, List.set_cons_zero, List.set_cons_succ]
    refine wpAnyH_take (i := 4) (oi := ⟨some 17, _, _, _, _, _⟩) (v := .agg #[.int .i64 y.x.a, .int .i64 y.x.b, .int .i64 y.x.k, .slice p1 n1 c1, .slice q1 m1 d1]) rfl (by kernel_rfl) (by kernel_rfl) (by kernel_rfl) (fun _ _ _ h => h) (Or.inl ⟨by rfl, ?_⟩) (HSA.out _ (Ext.refl _)) ?_
    · rintro w' ⟨t1, t2, t3, t4, t5, t6⟩
      go_simp
    try simp only [Act.put, List.setIfInBounds_toArray, List.set_cons_zero, List.set_cons_succ]
    refine wpAnyH_ready (rs := [0, 5]) (by kernel_rfl) (by simp) ?_
    refine AllReadyH.cons (o := ⟨some 13, .load 22 (.tmp 6), _, _, _, _⟩) rfl (fun K hK => ?_) (AllReadyH.cons (o := ⟨some 18, .buildSlice 22 1 #[(0, .tmp 17)], _, _, _, _⟩) rfl (fun K hK => ?_) AllReadyH.nil)
    · have c0 := HCB.out
      go_simp
      refine hK.out _ _ (HSA.out _ (Ext.refl _)) (fun _ => ?_)
      clear hK K c0
      try simp only [Act.put, List.setIfInBounds_toArray, List.set_cons_zero, List.set_cons_succ]
      refine wpAnyH_ready (rs := [5]) (by kernel_rfl) (by simp) ?_
      refine AllReadyH.cons (o := ⟨some 18, .buildSlice 22 1 #[(0, .tmp 17)], _, _, _, _⟩) rfl (fun K hK => ?_) AllReadyH.nil
      go_simp
      refine hK.out _ _ (HSA.out _ (Ext.alloc _ _)) (fun _ => ?_)
      clear hK K
      try simp only [Act.put, List.setIfInBounds_toArray, List.set_cons_zero, List.set_cons_succ]

      refine wpAnyH_ready (rs := [6]) (by kernel_rfl) (by simp) ?_
      refine AllReadyH.cons (o := ⟨some 19, .call { callee := .builtin .append, args := #[.tmp 13, .tmp 18], argTypes := #[22, 22] }, _, _, _, _⟩) rfl (fun K hK => ?_) AllReadyH.nil
      refine Lay.step_append_own rfl (.tmp 13) (.tmp 18) 22 rfl w5.heap.size 26 i0 (.agg #[.int .i64 0, .int .i64 0, .int .i64 0, .slice none 0 0, .slice none 0 0]) 5 72 Try.underlying22 hi0 hzi0 hzi1 hzi2 rfl (by decide) v pre.length vs rfl HOW.out ⟨Wd.heap.size, 0, none⟩ 1 1 [.int .i64 y.x.a, .int .i64 y.x.b, .int .i64 y.x.k, .slice p1 n1 c1, .slice q1 m1 d1] rfl rfl (fun j u hj => by rw [addN, Nat.zero_add, cell_of_row _ _ _ _ _ _ (heap_alloc_new Wd _)]; simpa using hj) (by intro u hu; simp at hu; rcases hu with rfl | rfl | rfl | rfl | rfl <;> rfl) (by have := HLEN.out; unfold maxLen; omega) (by have := HLEN.out; omega) (by have h1 := HV3.out.size; have h2 := HXD.out.size; simp; omega) ?_
      intro v2 w3 hown2 hg2 hb2
      obtain ⟨pv2, nv2, cv2, rfl⟩ : ∃ p n c, v2 = .slice p n c := by
        rcases hown2.2 with ⟨rfl, _⟩ | ⟨g, cap, cur, rfl, _⟩
        · exact ⟨_, _, _, rfl⟩
        · exact ⟨_, _, _, rfl⟩
      have HRK := Lib.hid (round_keep2 (W := W) (b := w.heap.size + 1 + 1) (n := w5.heap.size) HOW.out hown2 hg2 (by have := HS5.out; omega) (Nat.le_refl _) HV3.out.size HXD.out HV1.out.1 HV1.out.2)
      have hb3 : ∀ k, k < w5.heap.size → w3.heap[k]? = Wd.heap[k]? := fun k hk => by
        rw [hg2.block k (by have h1 := HV3.out.size; have h2 := HXD.out.size; simp; omega) (fun e => by have := (HOW.out.lt k e.symm).1; omega)]
        exact (Ext.alloc Wd _).block k (by have h1 := HV3.out.size; have h2 := HXD.out.size; omega)
      have hbw : b < w.heap.size := HBW.out
      have S3 : ∀ (k o : Nat) (u : Value), k < w5.heap.size → Wd.cell? ⟨k, o, none⟩ = some u → w3.cell? ⟨k, o, none⟩ = some u := fun k o u hk h => (World.cell?_of_block (w := Wd) (hb3 k hk)).trans h
      obtain ⟨t1, t2, t3, t4, t5, t6⟩ := HSA.out _ (Ext.refl _)
      have hs5 := HS5.out
      refine hK.out _ _ ⟨S3 _ _ _ (by omega) t1, S3 _ _ _ (by omega) t2, S3 _ _ _ (by omega) t3, S3 _ _ _ (by omega) t4, S3 _ _ _ (by omega) t5, S3 _ _ _ (by omega) t6⟩ (fun _ => ?_)
      clear hK K
      try simp only [Act.put, List.setIfInBounds_toArray, List.set_cons_zero, List.set_cons_succ]
      refine wpAnyH_ready (rs := [7]) (by kernel_rfl) (by simp) ?_
      refine AllReadyH.cons (o := ⟨none, .store 22 (.tmp 6) (.tmp 19), _, _, _, _⟩) rfl (fun K hK => ?_) AllReadyH.nil
      have z0 := HRK.out.1.1
      have z1 := HRK.out.1.2
      go_simp
      have FAR : ∀ (k o : Nat) (u : Value), k ≠ w.heap.size + 1 + 1 → w3.cell? ⟨k, o, none⟩ = some u → (w3.setCell ⟨w.heap.size + 1 + 1, 0, none⟩ (.slice pv2 nv2 cv2)).cell? ⟨k, o, none⟩ = some u := fun k o u hk h => (World.cell?_setCell_far w3 ⟨w.heap.size + 1 + 1, 0, none⟩ ⟨k, o, none⟩ _ (fun e => hk e.symm)).trans h
      refine hK.out _ _ ⟨FAR _ _ _ (by omega) (S3 _ _ _ (by omega) t1), FAR _ _ _ (by omega) (S3 _ _ _ (by omega) t2), FAR _ _ _ (by omega) (S3 _ _ _ (by omega) t3), FAR _ _ _ (by omega) (S3 _ _ _ (by omega) t4), FAR _ _ _ (by omega) (S3 _ _ _ (by omega) t5), FAR _ _ _ (by omega) (S3 _ _ _ (by omega) t6)⟩ (fun _ => ?_)
      clear hK K
      refine wpAnyH_done (by kernel_rfl) ?_ _
      refine ⟨HRK.out.2.2.1, by have h := HRK.out.2.2.2.1; rw [HS5.out] at h; exact h, _, vs ++ [.int .i64 y.x.a, .int .i64 y.x.b, .int .i64 y.x.k, .slice p1 n1 c1, .slice q1 m1 d1], HRK.out.2.1, by have h := HRK.out.2.2.2.2; rw [List.length_append]; exact h, by rw [List.map_append]; exact HV4.out.append (Lay.All.single HT.out.r), HV3.out.trans HRK.out.2.2.2.1⟩
    · go_simp
      refine hK.out _ _ (HSA.out _ (Ext.alloc _ _)) (fun _ => ?_)
      clear hK K
      try simp only [Act.put, List.setIfInBounds_toArray, List.set_cons_zero, List.set_cons_succ]
      refine wpAnyH_ready (rs := [0]) (by kernel_rfl) (by simp) ?_
      refine AllReadyH.cons (o := ⟨some 13, .load 22 (.tmp 6), _, _, _, _⟩) rfl (fun K hK => ?_) AllReadyH.nil
      have c0 := (Ext.alloc Wd (.cells #[.int .i64 y.x.a, .int .i64 y.x.b, .int .i64 y.x.k, .slice p1 n1 c1, .slice q1 m1 d1] 26)).cell HCB.out
      go_simp
      refine hK.out _ _ (HSA.out _ (Ext.alloc _ _)) (fun _ => ?_)
      clear hK K c0
      try simp only [Act.put, List.setIfInBounds_toArray, List.set_cons_zero, List.set_cons_succ]

      refine wpAnyH_ready (rs := [6]) (by kernel_rfl) (by simp) ?_
      refine AllReadyH.cons (o := ⟨some 19, .call { callee := .builtin .append, args := #[.tmp 13, .tmp 18], argTypes := #[22, 22] }, _, _, _, _⟩) rfl (fun K hK => ?_) AllReadyH.nil
      refine Lay.step_append_own rfl (.tmp 13) (.tmp 18) 22 rfl w5.heap.size 26 i0 (.agg #[.int .i64 0, .int .i64 0, .int .i64 0, .slice none 0 0, .slice none 0 0]) 5 72 Try.underlying22 hi0 hzi0 hzi1 hzi2 rfl (by decide) v pre.length vs rfl HOW.out ⟨Wd.heap.size, 0, none⟩ 1 1 [.int .i64 y.x.a, .int .i64 y.x.b, .int .i64 y.x.k, .slice p1 n1 c1, .slice q1 m1 d1] rfl rfl (fun j u hj => by rw [addN, Nat.zero_add, cell_of_row _ _ _ _ _ _ (heap_alloc_new Wd _)]; simpa using hj) (by intro u hu; simp at hu; rcases hu with rfl | rfl | rfl | rfl | rfl <;> rfl) (by have := HLEN.out; unfold maxLen; omega) (by have := HLEN.out; omega) (by have h1 := HV3.out.size; have h2 := HXD.out.size; simp; omega) ?_
      intro v2 w3 hown2 hg2 hb2
      obtain ⟨pv2, nv2, cv2, rfl⟩ : ∃ p n c, v2 = .slice p n c := by
        rcases hown2.2 with ⟨rfl, _⟩ | ⟨g, cap, cur, rfl, _⟩
        · exact ⟨_, _, _, rfl⟩
        · exact ⟨_, _, _, rfl⟩
      have HRK := Lib.hid (round_keep2 (W := W) (b := w.heap.size + 1 + 1) (n := w5.heap.size) HOW.out hown2 hg2 (by have := HS5.out; omega) (Nat.le_refl _) HV3.out.size HXD.out HV1.out.1 HV1.out.2)
      have hb3 : ∀ k, k < w5.heap.size → w3.heap[k]? = Wd.heap[k]? := fun k hk => by
        rw [hg2.block k (by have h1 := HV3.out.size; have h2 := HXD.out.size; simp; omega) (fun e => by have := (HOW.out.lt k e.symm).1; omega)]
        exact (Ext.alloc Wd _).block k (by have h1 := HV3.out.size; have h2 := HXD.out.size; omega)
      have hbw : b < w.heap.size := HBW.out
      have S3 : ∀ (k o : Nat) (u : Value), k < w5.heap.size → Wd.cell? ⟨k, o, none⟩ = some u → w3.cell? ⟨k, o, none⟩ = some u := fun k o u hk h => (World.cell?_of_block (w := Wd) (hb3 k hk)).trans h
      obtain ⟨t1, t2, t3, t4, t5, t6⟩ := HSA.out _ (Ext.refl _)
      have hs5 := HS5.out
      refine hK.out _ _ ⟨S3 _ _ _ (by omega) t1, S3 _ _ _ (by omega) t2, S3 _ _ _ (by omega) t3, S3 _ _ _ (by omega) t4, S3 _ _ _ (by omega) t5, S3 _ _ _ (by omega) t6⟩ (fun _ => ?_)
      clear hK K
      try simp only [Act.put, List.setIfInBounds_toArray, List.set_cons_zero, List.set_cons_succ]
      refine wpAnyH_ready (rs := [7]) (by kernel_rfl) (by simp) ?_
      refine AllReadyH.cons (o := ⟨none, .store 22 (.tmp 6) (.tmp 19), _, _, _, _⟩) rfl (fun K hK => ?_) AllReadyH.nil
      have z0 := HRK.out.1.1
      have z1 := HRK.out.1.2
      go_simp
      have FAR : ∀ (k o : Nat) (u : Value), k ≠ w.heap.size + 1 + 1 → w3.cell? ⟨k, o, none⟩ = some u → (w3.setCell ⟨w.heap.size + 1 + 1, 0, none⟩ (.slice pv2 nv2 cv2)).cell? ⟨k, o, none⟩ = some u := fun k o u hk h => (World.cell?_setCell_far w3 ⟨w.heap.size + 1 + 1, 0, none⟩ ⟨k, o, none⟩ _ (fun e => hk e.symm)).trans h
      refine hK.out _ _ ⟨FAR _ _ _ (by omega) (S3 _ _ _ (by omega) t1), FAR _ _ _ (by omega) (S3 _ _ _ (by omega) t2), FAR _ _ _ (by omega) (S3 _ _ _ (by omega) t3), FAR _ _ _ (by omega) (S3 _ _ _ (by omega) t4), FAR _ _ _ (by omega) (S3 _ _ _ (by omega) t5), FAR _ _ _ (by omega) (S3 _ _ _ (by omega) t6)⟩ (fun _ => ?_)
      clear hK K
      refine wpAnyH_done (by kernel_rfl) ?_ _
      refine ⟨HRK.out.2.2.1, by have h := HRK.out.2.2.2.1; rw [HS5.out] at h; exact h, _, vs ++ [.int .i64 y.x.a, .int .i64 y.x.b, .int .i64 y.x.k, .slice p1 n1 c1, .slice q1 m1 d1], HRK.out.2.1, by have h := HRK.out.2.2.2.2; rw [List.length_append]; exact h, by rw [List.map_append]; exact HV4.out.append (Lay.All.single HT.out.r), HV3.out.trans HRK.out.2.2.2.1⟩
  case done =>
    rintro D ys W hD hys ⟨v, vs, hv1, hv2, hv4, hv3⟩ hK
    have HYS := Lib.hid hys
    have cb := hv1.1
    have HV1 := Lib.hid hv1
    have HV2 := Lib.hid hv2
    have HV3 := Lib.hid hv3
    have HV4 := Lib.hid hv4
    have HKD := Lib.hid hK
    clear hv1 hv2 hv3 hv4 hK hys
    go_wp2
    have hgD := grownBy_putObj' W D (.deferred none)
    have hrD : ∀ r, some D = some r → ∃ o : Obj, W.heap[r]? = some o ∧ o.isCells = false := fun r e => by cases e; exact ⟨_, HKD.out, rfl⟩
    have hxW : Ext w W := HV3.out.ext HX5.out (by have := HS5.out; omega) (by omega)
    have hx11 : Ext w (W.putObj D (.deferred none)) := Lay.grown_old hxW (fun k e => by cases e; have := HS5.out; omega) hgD
    have hown := own_mk (l := ys.map Pl.x) (HV2.out.kept hgD (owns_ne HV2.out hrD)) (by rw [List.length_map]) HV4.out hx11 (by have := HS5.out; omega)
    rw [HYS.out.xs] at hown
    refine ⟨by simp, .inl ⟨_, _, rfl, run_takeDeferred HKD.out, ?_⟩⟩
    refine ⟨v, ?_, ⟨_, rfl, hown.sl⟩, hx11⟩
    simp [results, Try.f20, go_sem]
  case stop =>
    rintro D cd pre W hD hs h
    exact h.elim
end Wi
end Go.Proofs.Ytifbmkcfgpfefaa
