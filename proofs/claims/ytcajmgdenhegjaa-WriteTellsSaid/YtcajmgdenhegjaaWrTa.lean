/- Written bytes: the reference's Find and with. -/
import Derived.Test.YtcajmgdenhegjaaWrV
import Derived.Test.YtcajmgdenhegjaaGrow
namespace Go.Proofs.Ytcajmgdenhegjaa.Wr
open Go.RowKit Go.Proofs.Ytcajmgdenhegjaa
set_option linter.unusedVariables false

theorem box3 {w w2 : World} {x y z : Value} {t : TypeId} (h : Ext (w.alloc (.cells #[x, y, z] t)) w2) : w2.cell? ⟨w.heap.size, 0, none⟩ = some x ∧ w2.cell? ⟨w.heap.size, 1, none⟩ = some y ∧ w2.cell? ⟨w.heap.size, 2, none⟩ = some z := by
  have h1 := heap_ext (heap_alloc_new w (.cells #[x, y, z] t)) h
  exact ⟨cell_of_row _ _ 0 _ _ _ h1, cell_of_row _ _ 1 _ _ _ h1, cell_of_row _ _ 2 _ _ _ h1⟩
theorem find_at {l : List Sf} {m : Int} {k : Nat} {x : Sf} (h : ∀ (s : Nat) (y : Sf), s < k → l[s]? = some y → y.i ≠ m) (hx : l[k]? = some x) (hi : x.i = m) : findS l m = x := by
  have hk := (List.getElem?_eq_some_iff.1 hx).1
  have e : l = l.take k ++ x :: l.drop (k + 1) := by
    have h2 := List.take_append_drop k l
    rw [List.drop_eq_getElem_cons hk, (List.getElem?_eq_some_iff.1 hx).2] at h2
    exact h2.symm
  rw [e, find_app, find_cons, if_pos hi]
  intro y hy
  obtain ⟨s, hs⟩ := List.mem_iff_getElem?.1 hy
  have hs2 := (List.getElem?_eq_some_iff.1 hs).1
  rw [List.length_take] at hs2
  rw [List.getElem?_take, if_pos (by omega)] at hs
  exact h s y (by omega) hs
theorem find_no {l : List Sf} {m : Int} (h : ∀ (s : Nat) (y : Sf), s < l.length → l[s]? = some y → y.i ≠ m) : findS l m = ⟨m, 0, []⟩ := find_none fun y hy => by
  obtain ⟨s, hs⟩ := List.mem_iff_getElem?.1 hy
  exact h s y (List.getElem?_eq_some_iff.1 hs).1 hs
/-- a stored file, as a value -/
def SfV (w : World) (x : Sf) (v : Value) : Prop := ∃ q m d, v = .agg #[.int .i64 x.i, .int .i64 x.e, .slice q m d] ∧ TriC w [.int .i64 x.i, .int .i64 x.e, .slice q m d] x.i x.e x.d q m d
def RFindR (w : World) (l : List Sf) (m : Int) (n : Nat) (i : Value) (wr : World) : Prop :=
  ∃ j : Nat, i = .int .i64 j ∧ j ≤ n ∧ Hid (∀ (s : Nat) (y : Sf), s < j → l[s]? = some y → y.i ≠ m) ∧ wr = w.alloc (.cells #[.int .i64 0, .int .i64 0, .slice none 0 0] 51)
set_option maxRecDepth 100000 in
set_option maxHeartbeats 4000000 in
theorem rfind_v (p : Option Addr) (n c : Nat) (l : List Sf) (m : Int) (w : World) (hl : LSf.Row w p n l) (hm : (Lit.int .i64 m).wf = true) :
    Calls Try.prog 28 #[.slice p n c, .int .i64 m] w fun e w' => (∃ v, e = .returned v ∧ SfV w' (findS l m) v) ∧ Ext w w' := by
  have HP := Lib.hid hl
  have HM := Lib.hid hm
  have hn := hl.2.1
  clear hl hm
  go_enter Try.func28, Try.ntmps28
  go_wp2
  go_loopw [5] (fun i wr => RFindR w l m n i wr) (fun i _ => n - (intOf i).toNat)
  case atStart => exact ⟨0, rfl, by omega, Lib.hid (by intro s y hs; omega), rfl⟩
  case round =>
    obtain ⟨j, rfl, hj, HE, rfl⟩ := hrel
    by_cases hlt : j < n
    · have hlt' : (j : Int) < (n : Int) := by omega
      have hlt0 : (0 : Int) ≤ (j : Int) := by omega
      obtain ⟨x, gx⟩ : ∃ x, l[j]? = some x := ⟨_, List.getElem?_eq_getElem (by rw [HP.out.1]; exact hlt)⟩
      obtain ⟨b, off, p1, n1, c1, rfl, x0, x1, x2, tx⟩ := sf_at HP.out gx
      have hxA : Ext w (w.alloc (.cells #[.int .i64 0, .int .i64 0, .slice none 0 0] 51)) := Ext.alloc _ _
      replace x0 := hxA.cell x0
      replace x1 := hxA.cell x1
      replace x2 := hxA.cell x2
      have GX := Lib.hid gx
      have HT := Lib.hid tx
      clear gx tx hxA
      by_cases hi : x.i = m
      · have HI := Lib.hid hi
        have hb : (x.i == m) = true := by simp [hi]
        clear hi
        go_wp2
        refine bodyPost_ret (v := .agg #[.int .i64 x.i, .int .i64 x.e, .slice p1 n1 c1]) (results_cell_row rfl _ _ w.heap.size 51 #[.int .i64 x.i, .int .i64 x.e, .slice p1 n1 c1] (0, 0) _ rfl (heap_alloc_new _ _) Try.underlying51 rfl (by kernel_rfl)) rfl ⟨⟨_, rfl, ?_⟩, Ext.alloc _ _⟩
        rw [find_at HE.out GX.out HI.out]
        exact ⟨_, _, _, rfl, HT.out.ext (Ext.alloc _ _)⟩
      · have HI := Lib.hid hi
        have hb : (x.i == m) = false := by simp [hi]
        clear hi
        go_wp2
        go_roundw
        case rel => exact ⟨j + 1, by go_num, by omega, Lib.hid (fun s y hs hy => by
          by_cases e : s = j
          · subst e; rw [GX.out] at hy; cases hy; exact HI.out
          · exact HE.out s y (by omega) hy), rfl⟩
        case measure => simp [intOf]; omega
    · obtain rfl : j = n := by omega
      go_wp2
      refine bodyPost_ret (v := .agg #[.int .i64 m, .int .i64 0, .slice none 0 0]) (results_cell_row rfl _ _ w.heap.size 51 #[.int .i64 m, .int .i64 0, .slice none 0 0] (0, 0) _ rfl (heap_alloc_new _ _) Try.underlying51 rfl (by kernel_rfl)) rfl ⟨⟨_, rfl, ?_⟩, Ext.alloc _ _⟩
      rw [find_no (fun s y hs hy => HE.out s y (by rw [HP.out.1] at hs; exact hs) hy)]
      exact ⟨_, _, _, rfl, tri_mk (Lay.Sl.nil _ _) HM.out (show (Lit.int .i64 0).wf = true by decide)⟩

theorem sf_keep {w0 w1 : World} {row : Option Nat} {a f : Int} {p : Option Addr} {n c : Nat} {d : List Int} (h : TriC w0 [.int .i64 a, .int .i64 f, .slice p n c] a f d p n c) (hx : Ext w0 w1) (hr : ∀ k, row = some k → w0.heap.size ≤ k) : LSf.AllK w1 row [.int .i64 a, .int .i64 f, .slice p n c] [⟨a, f, d⟩] :=
  fun w' hg => Lay.All.single (E := LSf) (show LTri.R w' _ (a, f, d) from (TriC.ext h (Lay.grown_old hx hr hg)).tri)
theorem withK_step {l O : List Sf} {b : Bool} {j : Nat} {x y : Sf} (h : withK (l.take j) x = (O, b)) (g : l[j]? = some y) : withK (l.take (j + 1)) x =
    (let s1 := if !b && decide (x.i ≤ y.i) then (O ++ [x], true) else (O, b)
     (if y.i ≠ x.i then s1.1 ++ [y] else s1.1, s1.2)) := by
  rw [List.take_add_one, g]
  show withK (l.take j ++ [y]) x = _
  rw [withK_snoc, h]
theorem withK_len (x : Sf) : ∀ l : List Sf, (withK l x).1.length ≤ 2 * l.length := by
  refine rev_ind (by simp [withK]) ?_
  intro m y ih
  rw [withK_snoc, List.length_append, show [y].length = 1 from rfl]
  simp only
  split <;> split <;> (try simp) <;> omega
def RWithR (w WA : World) (l : List Sf) (x : Sf) (n : Nat) (o d i : Value) (wr : World) : Prop :=
  ∃ (j : Nat) (b : Bool) (O : List Sf), i = .int .i64 j ∧ j ≤ n ∧ d = .bool b ∧ withK (l.take j) x = (O, b) ∧ LSf.Own wr (w.heap.size + 1) 51 o O ∧ Ext WA wr
set_option maxRecDepth 100000 in
set_option maxHeartbeats 8000000 in
theorem rwith_v (p : Option Addr) (n c : Nat) (l : List Sf) (x : Sf) (q : Option Addr) (m d : Nat) (w : World) (hl : LSf.Row w p n l) (hs : SortedS l) (hb : n ≤ 1000) (htx : TriC w [.int .i64 x.i, .int .i64 x.e, .slice q m d] x.i x.e x.d q m d) :
    Calls Try.prog 43 #[.slice p n c, .agg #[.int .i64 x.i, .int .i64 x.e, .slice q m d]] w fun e w' => (∃ v, e = .returned v ∧ LSf.Own w' w.heap.size 51 v (withS l x)) ∧ Ext w w' := by
  obtain ⟨i0, hi0, hzi0, hzi1, hzi2⟩ := info_parts info_sf
  have HP := Lib.hid hl
  have HS := Lib.hid hs
  have HNB := Lib.hid hb
  have HTX := Lib.hid htx
  have hn := hl.2.1
  have hxA : Ext w (w.alloc (.cells #[.int .i64 x.i, .int .i64 x.e, .slice q m d] 51)) := Ext.alloc _ _
  have HXA := Lib.hid hxA
  have HO0 : Hid (LSf.Own ((w.alloc (.cells #[.int .i64 x.i, .int .i64 x.e, .slice q m d] 51)).alloc (.cells #[] 51)) (w.heap.size + 1) 51 (.slice (some ⟨w.heap.size + 1, 0, none⟩) 0 0) []) := Lib.hid (by
    have h := Lay.Own.made (E := LSf) (w.alloc (.cells #[.int .i64 x.i, .int .i64 x.e, .slice q m d] 51)) #[] 0 (w.heap.size + 1) 51 (by simp) (by decide) rfl
    simpa using h)
  have HX0 : Hid (Ext (w.alloc (.cells #[.int .i64 x.i, .int .i64 x.e, .slice q m d] 51)) ((w.alloc (.cells #[.int .i64 x.i, .int .i64 x.e, .slice q m d] 51)).alloc (.cells #[] 51))) := Lib.hid (Ext.alloc _ _)
  clear hl hs hb htx hxA
  go_enter Try.func43, Try.ntmps43
  go_wp2
  go_loopw [5, 6, 7] (fun o d' i wr => RWithR w (w.alloc (.cells #[.int .i64 x.i, .int .i64 x.e, .slice q m d] 51)) l x n o d' i wr) (fun _ _ i _ => n - (intOf i).toNat)
  case atStart => exact ⟨0, false, [], rfl, by omega, rfl, rfl, HO0.out, HX0.out⟩
  case round =>
    obtain ⟨j, b, O, rfl, hj, rfl, hO, ho, hx⟩ := hrel
    have HX := Lib.hid hx
    have HO := Lib.hid ho
    have HOO := Lib.hid hO
    have HOL : Hid (O.length ≤ 2000) := Lib.hid (by have h := withK_len x (l.take j); rw [hO, List.length_take] at h; have := HNB.out; simp only at h; omega)
    clear hO ho
    by_cases hlt : j < n
    · have hlt' : (j : Int) < (n : Int) := by omega
      have hlt0 : (0 : Int) ≤ (j : Int) := by omega
      obtain ⟨y, gx⟩ : ∃ y, l[j]? = some y := ⟨_, List.getElem?_eq_getElem (by rw [HP.out.1]; exact hlt)⟩
      obtain ⟨b2, off, p1, n1, c1, rfl, x0, x1, x2, tx⟩ := sf_at HP.out gx
      have GX := Lib.hid gx
      have HT := Lib.hid tx
      have HY0 := Lib.hid (HXA.out.cell x0)
      have HY1 := Lib.hid (HXA.out.cell x1)
      have HY2 := Lib.hid (HXA.out.cell x2)
      clear gx tx x0 x1 x2 hx
      cases b with
      | true =>
        have k0 : ∀ g : Gr wr, g.w.cell? ⟨b2, off + j * 3, none⟩ = some (.int .i64 y.i) := fun g => g.cell (HX.out.cell HY0.out)
        have k1 : ∀ g : Gr wr, g.w.cell? ⟨w.heap.size, 0, none⟩ = some (.int .i64 x.i) := fun g => g.cell (box3 HX.out).1
        go_wp2
        refine wp_region_grown (Ext.refl wr) (by kernel_rfl) (by kernel_rfl) ?_
        repeat (go_big_quiet_step (fail))
        refine wpQuiet_nil ?_
        intro gw
        have hxg := gw.h
        clear k0 k1
        generalize gw.w = w6 at hxg ⊢
        have HX6 := Lib.hid (Ext.trans HX.out hxg)
        have HO6 := Lib.hid (HO.out.ext hxg)
        clear hxg
        by_cases heq : y.i = x.i
        · have hnb : (y.i != x.i) = false := by simp [heq]
          have hnd : decide (y.i = x.i) = true := decide_eq_true heq
          have HEQ := Lib.hid heq
          clear heq
          have k0 : ∀ g : Gr w6, g.w.cell? ⟨b2, off + j * 3, none⟩ = some (.int .i64 y.i) := fun g => g.cell (HX6.out.cell HY0.out)
          have k1 : ∀ g : Gr w6, g.w.cell? ⟨w.heap.size, 0, none⟩ = some (.int .i64 x.i) := fun g => g.cell (box3 HX6.out).1
          go_wp2
          refine wp_region_grown (Ext.refl w6) (by kernel_rfl) (by kernel_rfl) ?_
          repeat (go_big_quiet_step (fail))
          refine wpQuiet_nil ?_
          intro gw
          have hxg := gw.h
          clear k0 k1
          generalize gw.w = w9 at hxg ⊢
          have HX9 := Lib.hid (Ext.trans HX6.out hxg)
          have HO9 := Lib.hid (HO6.out.ext hxg)
          clear hxg
          go_wp2
          go_roundw
          case rel => exact ⟨j + 1, true, _, by go_num, by omega, rfl, by rw [withK_step HOO.out GX.out]; simp [HEQ.out], HO9.out, HX9.out⟩
          case measure => simp [intOf]; omega
        · have hnb : (y.i != x.i) = true := by simp [heq]
          have hnd : decide (y.i = x.i) = false := decide_eq_false heq
          have HEQ := Lib.hid heq
          clear heq
          have k0 : ∀ g : Gr w6, g.w.cell? ⟨b2, off + j * 3, none⟩ = some (.int .i64 y.i) := fun g => g.cell (HX6.out.cell HY0.out)
          have k1 : ∀ g : Gr w6, g.w.cell? ⟨w.heap.size, 0, none⟩ = some (.int .i64 x.i) := fun g => g.cell (box3 HX6.out).1
          go_wp2
          refine wp_region_grown (Ext.refl w6) (by kernel_rfl) (by kernel_rfl) ?_
          repeat (go_big_quiet_step (fail))
          refine wpQuiet_nil ?_
          intro gw
          have hxg := gw.h
          clear k0 k1
          generalize gw.w = w9 at hxg ⊢
          have HX9 := Lib.hid (Ext.trans HX6.out hxg)
          have HO9 := Lib.hid (HO6.out.ext hxg)
          clear hxg
          have f0 := HX9.out.cell HY0.out
          have f1 := HX9.out.cell HY1.out
          have f2 := HX9.out.cell HY2.out
          have HXC := Lib.hid (Ext.trans HX9.out (Ext.alloc w9 (.cells #[.int .i64 y.i, .int .i64 y.e, .slice p1 n1 c1] 51)))
          have HOA := Lib.hid (HO9.out.ext (Ext.alloc w9 (.cells #[.int .i64 y.i, .int .i64 y.e, .slice p1 n1 c1] 51)))
          have HRK : Hid (LSf.RowK (w9.alloc (.cells #[.int .i64 y.i, .int .i64 y.e, .slice p1 n1 c1] 51)) (u5).ownBlock (some ⟨w9.heap.size, 0, none⟩) 1 [y]) := Lib.hid (Lay.RowK.lit (Ext.refl _) (sf_keep HT.out (Ext.trans HXA.out HXC.out) (fun k hk => (by have := (HOA.out.lt k hk).1; omega))) rfl rfl (by decide))
          go_wp2_with (at_builtin; refine Lay.wpList_append (E := LSf) rfl (.tmp 39) (.tmp 44) 38 rfl (w.heap.size + 1) 51 i0 (.agg #[.int .i64 0, .int .i64 0, .slice none 0 0]) 40 Try.underlying38 hi0 hzi0 hzi1 hzi2 rfl u5 (O) rfl HOA.out (some ⟨w9.heap.size, 0, none⟩) 1 1 [y] rfl (fun _ => ⟨_, _, rfl⟩) (Nat.le_refl _) HRK.out (by have := HOL.out; unfold maxLen; simp; omega) (by have := HOL.out; simp; omega) (by have := HXC.out.size; simp at this; simp; omega) ?_; intro v3 wv3 hown2 hg2)
          have HX10 := Lib.hid (HOA.out.below HXC.out (by simp) hg2)
          have HO10 := Lib.hid hown2
          clear hown2 hg2 f0 f1 f2 HXC HOA HRK
          go_wp2
          go_roundw
          case rel => exact ⟨j + 1, true, _, by go_num, by omega, rfl, by rw [withK_step HOO.out GX.out]; simp [HEQ.out], HO10.out, HX10.out⟩
          case measure => simp [intOf]; omega
      | false =>
        by_cases hle : x.i ≤ y.i
        · have HLE := Lib.hid hle
          have k0 : ∀ g : Gr wr, g.w.cell? ⟨b2, off + j * 3, none⟩ = some (.int .i64 y.i) := fun g => g.cell (HX.out.cell HY0.out)
          have k1 : ∀ g : Gr wr, g.w.cell? ⟨w.heap.size, 0, none⟩ = some (.int .i64 x.i) := fun g => g.cell (box3 HX.out).1
          go_wp2
          refine wp_region_grown (Ext.refl wr) (by kernel_rfl) (by kernel_rfl) ?_
          repeat (go_big_quiet_step (fail))
          refine wpQuiet_nil ?_
          intro gw
          have hxg := gw.h
          clear k0 k1
          generalize gw.w = w6 at hxg ⊢
          have HX6 := Lib.hid (Ext.trans HX.out hxg)
          have HO6 := Lib.hid (HO.out.ext hxg)
          clear hxg
          obtain ⟨f0, f1, f2⟩ := box3 HX6.out
          have HXC := Lib.hid (Ext.trans HX6.out (Ext.alloc w6 (.cells #[.int .i64 x.i, .int .i64 x.e, .slice q m d] 51)))
          have HOA := Lib.hid (HO6.out.ext (Ext.alloc w6 (.cells #[.int .i64 x.i, .int .i64 x.e, .slice q m d] 51)))
          have HRK : Hid (LSf.RowK (w6.alloc (.cells #[.int .i64 x.i, .int .i64 x.e, .slice q m d] 51)) (u5).ownBlock (some ⟨w6.heap.size, 0, none⟩) 1 [x]) := Lib.hid (Lay.RowK.lit (Ext.refl _) (sf_keep HTX.out (Ext.trans HXA.out HXC.out) (fun k hk => (by have := (HOA.out.lt k hk).1; omega))) rfl rfl (by decide))
          go_wp2_with (at_builtin; refine Lay.wpList_append (E := LSf) rfl (.tmp 27) (.tmp 29) 38 rfl (w.heap.size + 1) 51 i0 (.agg #[.int .i64 0, .int .i64 0, .slice none 0 0]) 40 Try.underlying38 hi0 hzi0 hzi1 hzi2 rfl u5 (O) rfl HOA.out (some ⟨w6.heap.size, 0, none⟩) 1 1 [x] rfl (fun _ => ⟨_, _, rfl⟩) (Nat.le_refl _) HRK.out (by have := HOL.out; unfold maxLen; simp; omega) (by have := HOL.out; simp; omega) (by have := HXC.out.size; simp at this; simp; omega) ?_; intro v2 wv2 hown2 hg2)
          have HX7 := Lib.hid (HOA.out.below HXC.out (by simp) hg2)
          have HO7 := Lib.hid hown2
          clear hown2 hg2 f0 f1 f2 HXC HOA HRK
          by_cases heq : y.i = x.i
          · have hnb : (y.i != x.i) = false := by simp [heq]
            have hnd : decide (y.i = x.i) = true := decide_eq_true heq
            have HEQ := Lib.hid heq
            clear heq
            have k0 : ∀ g : Gr wv2, g.w.cell? ⟨b2, off + j * 3, none⟩ = some (.int .i64 y.i) := fun g => g.cell (HX7.out.cell HY0.out)
            have k1 : ∀ g : Gr wv2, g.w.cell? ⟨w.heap.size, 0, none⟩ = some (.int .i64 x.i) := fun g => g.cell (box3 HX7.out).1
            go_wp2
            refine wp_region_grown (Ext.refl wv2) (by kernel_rfl) (by kernel_rfl) ?_
            repeat (go_big_quiet_step (fail))
            refine wpQuiet_nil ?_
            intro gw
            have hxg := gw.h
            clear k0 k1
            generalize gw.w = w9 at hxg ⊢
            have HX9 := Lib.hid (Ext.trans HX7.out hxg)
            have HO9 := Lib.hid (HO7.out.ext hxg)
            clear hxg
            go_wp2
            go_roundw
            case rel => exact ⟨j + 1, true, _, by go_num, by omega, rfl, by rw [withK_step HOO.out GX.out]; simp [HEQ.out], HO9.out, HX9.out⟩
            case measure => simp [intOf]; omega
          · have hnb : (y.i != x.i) = true := by simp [heq]
            have hnd : decide (y.i = x.i) = false := decide_eq_false heq
            have HEQ := Lib.hid heq
            clear heq
            have k0 : ∀ g : Gr wv2, g.w.cell? ⟨b2, off + j * 3, none⟩ = some (.int .i64 y.i) := fun g => g.cell (HX7.out.cell HY0.out)
            have k1 : ∀ g : Gr wv2, g.w.cell? ⟨w.heap.size, 0, none⟩ = some (.int .i64 x.i) := fun g => g.cell (box3 HX7.out).1
            go_wp2
            refine wp_region_grown (Ext.refl wv2) (by kernel_rfl) (by kernel_rfl) ?_
            repeat (go_big_quiet_step (fail))
            refine wpQuiet_nil ?_
            intro gw
            have hxg := gw.h
            clear k0 k1
            generalize gw.w = w9 at hxg ⊢
            have HX9 := Lib.hid (Ext.trans HX7.out hxg)
            have HO9 := Lib.hid (HO7.out.ext hxg)
            clear hxg
            have f0 := HX9.out.cell HY0.out
            have f1 := HX9.out.cell HY1.out
            have f2 := HX9.out.cell HY2.out
            have HXC := Lib.hid (Ext.trans HX9.out (Ext.alloc w9 (.cells #[.int .i64 y.i, .int .i64 y.e, .slice p1 n1 c1] 51)))
            have HOA := Lib.hid (HO9.out.ext (Ext.alloc w9 (.cells #[.int .i64 y.i, .int .i64 y.e, .slice p1 n1 c1] 51)))
            have HRK : Hid (LSf.RowK (w9.alloc (.cells #[.int .i64 y.i, .int .i64 y.e, .slice p1 n1 c1] 51)) (v2).ownBlock (some ⟨w9.heap.size, 0, none⟩) 1 [y]) := Lib.hid (Lay.RowK.lit (Ext.refl _) (sf_keep HT.out (Ext.trans HXA.out HXC.out) (fun k hk => (by have := (HOA.out.lt k hk).1; omega))) rfl rfl (by decide))
            go_wp2_with (at_builtin; refine Lay.wpList_append (E := LSf) rfl (.tmp 39) (.tmp 44) 38 rfl (w.heap.size + 1) 51 i0 (.agg #[.int .i64 0, .int .i64 0, .slice none 0 0]) 40 Try.underlying38 hi0 hzi0 hzi1 hzi2 rfl v2 (O ++ [x]) rfl HOA.out (some ⟨w9.heap.size, 0, none⟩) 1 1 [y] rfl (fun _ => ⟨_, _, rfl⟩) (Nat.le_refl _) HRK.out (by have := HOL.out; unfold maxLen; simp; omega) (by have := HOL.out; simp; omega) (by have := HXC.out.size; simp at this; simp; omega) ?_; intro v3 wv3 hown2 hg2)
            have HX10 := Lib.hid (HOA.out.below HXC.out (by simp) hg2)
            have HO10 := Lib.hid hown2
            clear hown2 hg2 f0 f1 f2 HXC HOA HRK
            go_wp2
            go_roundw
            case rel => exact ⟨j + 1, true, _, by go_num, by omega, rfl, by rw [withK_step HOO.out GX.out]; simp [HEQ.out, HLE.out], HO10.out, HX10.out⟩
            case measure => simp [intOf]; omega
        · have HLE := Lib.hid hle
          have k0 : ∀ g : Gr wr, g.w.cell? ⟨b2, off + j * 3, none⟩ = some (.int .i64 y.i) := fun g => g.cell (HX.out.cell HY0.out)
          have k1 : ∀ g : Gr wr, g.w.cell? ⟨w.heap.size, 0, none⟩ = some (.int .i64 x.i) := fun g => g.cell (box3 HX.out).1
          go_wp2
          refine wp_region_grown (Ext.refl wr) (by kernel_rfl) (by kernel_rfl) ?_
          repeat (go_big_quiet_step (fail))
          refine wpQuiet_nil ?_
          intro gw
          have hxg := gw.h
          clear k0 k1
          generalize gw.w = w6 at hxg ⊢
          have HX6 := Lib.hid (Ext.trans HX.out hxg)
          have HO6 := Lib.hid (HO.out.ext hxg)
          clear hxg
          have heq : ¬ y.i = x.i := by have := HLE.out; omega
          have hnb : (y.i != x.i) = true := by simp [heq]
          have hnd : decide (y.i = x.i) = false := decide_eq_false heq
          have HEQ := Lib.hid heq
          clear heq
          have k0 : ∀ g : Gr w6, g.w.cell? ⟨b2, off + j * 3, none⟩ = some (.int .i64 y.i) := fun g => g.cell (HX6.out.cell HY0.out)
          have k1 : ∀ g : Gr w6, g.w.cell? ⟨w.heap.size, 0, none⟩ = some (.int .i64 x.i) := fun g => g.cell (box3 HX6.out).1
          go_wp2
          refine wp_region_grown (Ext.refl w6) (by kernel_rfl) (by kernel_rfl) ?_
          repeat (go_big_quiet_step (fail))
          refine wpQuiet_nil ?_
          intro gw
          have hxg := gw.h
          clear k0 k1
          generalize gw.w = w9 at hxg ⊢
          have HX9 := Lib.hid (Ext.trans HX6.out hxg)
          have HO9 := Lib.hid (HO6.out.ext hxg)
          clear hxg
          have f0 := HX9.out.cell HY0.out
          have f1 := HX9.out.cell HY1.out
          have f2 := HX9.out.cell HY2.out
          have HXC := Lib.hid (Ext.trans HX9.out (Ext.alloc w9 (.cells #[.int .i64 y.i, .int .i64 y.e, .slice p1 n1 c1] 51)))
          have HOA := Lib.hid (HO9.out.ext (Ext.alloc w9 (.cells #[.int .i64 y.i, .int .i64 y.e, .slice p1 n1 c1] 51)))
          have HRK : Hid (LSf.RowK (w9.alloc (.cells #[.int .i64 y.i, .int .i64 y.e, .slice p1 n1 c1] 51)) (u5).ownBlock (some ⟨w9.heap.size, 0, none⟩) 1 [y]) := Lib.hid (Lay.RowK.lit (Ext.refl _) (sf_keep HT.out (Ext.trans HXA.out HXC.out) (fun k hk => (by have := (HOA.out.lt k hk).1; omega))) rfl rfl (by decide))
          go_wp2_with (at_builtin; refine Lay.wpList_append (E := LSf) rfl (.tmp 39) (.tmp 44) 38 rfl (w.heap.size + 1) 51 i0 (.agg #[.int .i64 0, .int .i64 0, .slice none 0 0]) 40 Try.underlying38 hi0 hzi0 hzi1 hzi2 rfl u5 (O) rfl HOA.out (some ⟨w9.heap.size, 0, none⟩) 1 1 [y] rfl (fun _ => ⟨_, _, rfl⟩) (Nat.le_refl _) HRK.out (by have := HOL.out; unfold maxLen; simp; omega) (by have := HOL.out; simp; omega) (by have := HXC.out.size; simp at this; simp; omega) ?_; intro v3 wv3 hown2 hg2)
          have HX10 := Lib.hid (HOA.out.below HXC.out (by simp) hg2)
          have HO10 := Lib.hid hown2
          clear hown2 hg2 f0 f1 f2 HXC HOA HRK
          go_wp2
          go_roundw
          case rel => exact ⟨j + 1, false, _, by go_num, by omega, rfl, by rw [withK_step HOO.out GX.out]; simp [HEQ.out]; exact ⟨by rw [if_neg (Int.not_le.2 HLE.out)], by rw [if_neg (Int.not_le.2 HLE.out)]⟩, HO10.out, HX10.out⟩
          case measure => simp [intOf]; omega
    · obtain rfl : j = n := by omega
      have htk : l.take j = l := List.take_of_length_le (by rw [HP.out.1]; omega)
      have hall := withK_all HS.out x
      have hOO := HOO.out
      rw [htk] at hOO
      rw [hOO] at hall
      simp only at hall
      have HALL := Lib.hid hall
      clear htk hall hOO hx
      cases b with
      | true =>
        go_wp2
        go_ret
        refine ⟨⟨_, rfl, ?_⟩, Ext.trans HXA.out HX.out⟩
        rw [← HALL.out]; exact HO.out.base (by omega)
      | false =>
        obtain ⟨f0, f1, f2⟩ := box3 HX.out
        have HXC := Lib.hid (Ext.trans HX.out (Ext.alloc wr (.cells #[.int .i64 x.i, .int .i64 x.e, .slice q m d] 51)))
        have HOA := Lib.hid (HO.out.ext (Ext.alloc wr (.cells #[.int .i64 x.i, .int .i64 x.e, .slice q m d] 51)))
        have HRK : Hid (LSf.RowK (wr.alloc (.cells #[.int .i64 x.i, .int .i64 x.e, .slice q m d] 51)) (u5).ownBlock (some ⟨wr.heap.size, 0, none⟩) 1 [x]) := Lib.hid (Lay.RowK.lit (Ext.refl _) (sf_keep HTX.out (Ext.trans HXA.out HXC.out) (fun k hk => (by have := (HOA.out.lt k hk).1; omega))) rfl rfl (by decide))
        go_wp2_with (at_builtin; refine Lay.wpList_append (E := LSf) rfl (.tmp 48) (.tmp 50) 38 rfl (w.heap.size + 1) 51 i0 (.agg #[.int .i64 0, .int .i64 0, .slice none 0 0]) 40 Try.underlying38 hi0 hzi0 hzi1 hzi2 rfl u5 (O) rfl HOA.out (some ⟨wr.heap.size, 0, none⟩) 1 1 [x] rfl (fun _ => ⟨_, _, rfl⟩) (Nat.le_refl _) HRK.out (by have := HOL.out; unfold maxLen; simp; omega) (by have := HOL.out; simp; omega) (by have := HXC.out.size; simp at this; simp; omega) ?_; intro v2 wv2 hown2 hg2)
        have HX7 := Lib.hid (HOA.out.below HXC.out (by simp) hg2)
        have HO7 := Lib.hid hown2
        clear hown2 hg2 f0 f1 f2 HXC HOA HRK
        go_wp2
        go_ret
        refine ⟨⟨_, rfl, ?_⟩, Ext.trans HXA.out HX7.out⟩
        rw [← HALL.out]; exact HO7.out.base (by omega)
end Go.Proofs.Ytcajmgdenhegjaa.Wr
