/- Written bytes: a copy of the row of pieces, its cells told; what a round of Put leaves. -/
import Derived.Test.YtcajmgdenhegjaaWrW
import Derived.Test.YtcajmgdenhegjaaWrU
import Derived.Test.YtcajmgdenhegjaaWrK
namespace Go.Proofs.Ytcajmgdenhegjaa.Wr
open Go.RowKit Go.Proofs.Ytcajmgdenhegjaa Go.Shelf
set_option linter.unusedVariables false

set_option maxRecDepth 100000 in
set_option maxHeartbeats 4000000 in
theorem cloneP2_v (p : Option Addr) (n c : Nat) (l : List Pc) (w0 w : World) (hl : LPc.Sl w0 (.slice p n c) l) (hx : Ext w0 w) (hn : l.length ≤ 100000) :
    Calls Try.prog 35 #[.slice p n c] w fun e w' => (∃ v vs, e = .returned v ∧ w'.ownsRow w.heap.size 30 3 v n vs ∧ LPc.All w0 vs l) ∧ Ext w w' := by
  obtain ⟨i0, hi0, hzi0, hzi1, hzi2⟩ := info_parts info_pc
  obtain ⟨⟨h1, h2, vs, hall, hc⟩, hnc, hcm, hpl⟩ := sl_parts hl
  have hvl : vs.length = n * 3 := by rw [hall.length, h1]; rfl
  have HALL := Lib.hid hall
  have HVL := Lib.hid hvl
  have HPL := Lib.hid hpl
  have HN : Hid (n ≤ 100000) := Lib.hid (by rw [← h1]; exact hn)
  have HC := Lib.hid hc
  have HX := Lib.hid hx
  have hnil := fun (a : Option Addr) (n c : Nat) (w : World) => Lib.run_eql_slice_nil (P := Try.prog) w 22 30 a n c 0 0 Try.underlying22
  have hl0 : p = none → n = 0 ∧ c = 0 := fun e => by
    have h0 : c = 0 := by
      by_cases h : 0 < c
      · obtain ⟨b, off, e'⟩ := HPL.out h; rw [e] at e'; cases e'
      · omega
    exact ⟨by omega, h0⟩
  have hle : n ≤ 9223372036854775807 := h2
  clear hl hpl hall hc hx hn
  cases p with
  | none =>
    obtain ⟨rfl, rfl⟩ := hl0 rfl
    have hvs : vs = [] := List.eq_nil_of_length_eq_zero (by rw [hvl])
    have HVS := Lib.hid hvs
    clear hl0 hvl h1 hvs
    go_enter Try.func35, Try.ntmps35
    go_wp2
    go_ret
    exact ⟨⟨_, vs, rfl, by rw [HVS.out]; exact World.ownsRow_nil _ _ _ _, HALL.out⟩, Ext.refl _⟩
  | some a =>
    have hcell : ∀ j u, vs[j]? = some u → (w.alloc (.cells #[] 30)).cell? (a.add j) = some u := by
      intro j u hj
      have h0 : 0 < n := by
        have := (List.getElem?_eq_some_iff.1 hj).1
        rw [hvl] at this; omega
      obtain ⟨b, off, e, hcc⟩ := HC.out h0
      cases e
      rw [addN]
      exact (Ext.trans HX.out (Ext.alloc _ _)).cell (hcc j u hj)
    have HCELL := Lib.hid hcell
    have HL0 := Lib.hid (World.ownsRow_made (e := 30) (size := 3) (base := w.heap.size) w #[] 0 (Nat.le_refl _) (by decide) rfl)
    clear hl0 hvl h1 hcell
    go_enter Try.func35, Try.ntmps35
    go_wp2_with (at_builtin; refine wpList_append_own_at _ rfl (.tmp 5) (.tmp 6) 22 rfl w.heap.size 30 i0 (.agg #[.int .i64 0, .int .i64 0, .slice none 0 0]) 3 40 Try.underlying22 hi0 hzi0 hzi1 hzi2 rfl (by decide) (.slice (some ⟨w.heap.size, 0, none⟩) 0 0) 0 [] rfl HL0.out a n c vs rfl HVL.out HCELL.out HALL.out.one (by have := HN.out; unfold maxLen; omega) (by have := HN.out; omega) (by simp) ?_; intro v2 w3 hown2 hg2 _ _)
    have X3 := Lib.hid (below_grown (Ext.alloc w (.cells #[] 30)) (Nat.le_refl _) hg2 HL0.out)
    have HO := Lib.hid hown2
    clear hown2 hg2
    go_wp2
    go_ret
    exact ⟨⟨_, vs, rfl, by have := HO.out; simpa using this, HALL.out⟩, X3.out⟩
/-- the call's own, out of its cells -/
theorem own_mk {w0 w : World} {base n : Nat} {v : Value} {vs : List Value} {l : List Pc} (h : w.ownsRow base 30 3 v n vs) (hn : l.length = n) (ha : LPc.All w0 vs l) (hx : Ext w0 w) (hb : w0.heap.size ≤ base) : LPc.Own w base 30 v l :=
  ⟨vs, by rw [hn]; exact h, fun w' hg => ha.ext (Lay.grown_old hx (fun k hk => Nat.le_trans hb (h.lt k hk).1) hg)⟩
theorem set3_list {C : List Value} {q : Nat} (h : q + 2 < C.length) (a b c : Value) : ((C.set q a).set (q + 1) b).set (q + 2) c = C.take q ++ [a, b, c] ++ C.drop (q + 3) := by
  obtain ⟨A, D, e, hA, eA, eD⟩ := three_list (x0 := C[q]) (x1 := C[q + 1]) (x2 := C[q + 2]) (List.getElem?_eq_getElem (by omega)) (List.getElem?_eq_getElem (by omega)) (List.getElem?_eq_getElem h)
  rw [← eA, ← eD]
  conv => lhs; rw [e]
  simp [hA]
/-- three cells of the row written -/
theorem own_put3 {w : World} {base g n c k : Nat} {vs : List Value} (h : w.ownsRow base 30 3 (.slice (some ⟨g, 0, none⟩) n c) n vs) (hk : k < n) (a b d : Value) :
    (((w.setCell ⟨g, k * 3, none⟩ a).setCell ⟨g, k * 3 + 1, none⟩ b).setCell ⟨g, k * 3 + 2, none⟩ d).ownsRow base 30 3 (.slice (some ⟨g, 0, none⟩) n c) n (vs.take (k * 3) ++ [a, b, d] ++ vs.drop (k * 3 + 3)) ∧
    w.grownBy (((w.setCell ⟨g, k * 3, none⟩ a).setCell ⟨g, k * 3 + 1, none⟩ b).setCell ⟨g, k * 3 + 2, none⟩ d) (some g) := by
  have hl := h.1
  obtain ⟨h1, g1⟩ := h.stored (k * 3) a
  obtain ⟨h2, g2⟩ := h1.stored (k * 3 + 1) b
  obtain ⟨h3, g3⟩ := h2.stored (k * 3 + 2) d
  rw [set3_list (by rw [hl]; omega)] at h3
  exact ⟨h3, World.grownBy.trans (World.grownBy.trans g1 g2) g3⟩
/-- what the row reads as then -/
theorem all_put3 {w : World} {n k : Nat} {vs : List Value} {l : List Pc} {y : Pc} {q : Option Addr} {m d : Nat} (ha : LPc.All w vs l) (hn : l.length = n) (hk : k < n) (ht : TriC w [.int .i64 y.i, .int .i64 y.f, .slice q m d] y.i y.f y.d q m d) :
    LPc.All w (vs.take (k * 3) ++ [.int .i64 y.i, .int .i64 y.f, .slice q m d] ++ vs.drop (k * 3 + 3)) (l.set k y) := by
  have h1 : LPc.All w (vs.take (k * 3)) (l.take k) := ha.take k
  have h2 : LPc.All w [.int .i64 y.i, .int .i64 y.f, .slice q m d] [y] := Lay.All.single (E := LPc) (show LTri.R w _ (y.i, y.f, y.d) from ht.tri)
  have h3 : LPc.All w (vs.drop (k * 3 + 3)) (l.drop (k + 1)) := by
    have := ha.drop (k + 1)
    have e : (k + 1) * LPc.size = k * 3 + 3 := by show (k + 1) * 3 = _; omega
    rwa [e] at this
  have := (h1.append h2).append h3
  rwa [set_cut1 l k y (by omega)] at this
theorem sl_mk {w : World} {base n : Nat} {v : Value} {vs : List Value} {l : List Pc} (h : w.ownsRow base 30 3 v n vs) (hn : l.length = n) (ha : LPc.All w vs l) : LPc.Sl w v l := by
  rcases h.2 with ⟨rfl, h0⟩ | ⟨g, cap, cur, rfl, hb, hg, hnc, hcm, hsz, htk⟩
  · exact ⟨_, _, _, rfl, ⟨by rw [hn, h0], by omega, vs, ha, fun h => by omega⟩, by omega, by omega, fun h => by omega⟩
  · refine ⟨_, _, _, rfl, ⟨hn, by unfold maxLen at hcm; omega, vs, ha, fun h0 => ⟨g, 0, rfl, fun j u hu => ?_⟩⟩, hnc, by unfold maxLen at hcm; omega, fun _ => ⟨g, 0, rfl⟩⟩
    have := h.cells (g := g) rfl j u hu
    rwa [add0] at this
/-- between two rounds -/
def LoopI {w : World} {l : List Pc} (w5 : World) (m : Int) (pre : List (BkX w l)) (W : World) : Prop := (∀ y ∈ pre, y.x.i ≠ m) ∧ Ext w5 W
/-- a round that is left -/
def LoopX {w : World} {l : List Pc} (w5 : World) (x : Pc) (own : Value) (n : Nat) (vs : List Value) (base t8 : Nat) (c : Code) (pre : List (BkX w l)) (W : World) : Prop :=
  ∃ ini y, pre = ini ++ [y] ∧ (∀ z ∈ ini, z.x.i ≠ x.i) ∧ y.x.i = x.i ∧
    ((c = .exit 0 ∧ ¬ Meet y.x x ∧ Ext w5 W) ∨
     (c = .ret ∧ Meet y.x x ∧ Ext w W ∧ W.cell? ⟨t8, 0, none⟩ = some own ∧ ∃ q k d, (Lay.int .u8).Own W w5.heap.size 5 (.slice q k d) (both y.x x).d ∧
        W.ownsRow base 30 3 own n (vs.take (y.k * 3) ++ [.int .i64 y.x.i, .int .i64 (min y.x.f x.f), .slice q k d] ++ vs.drop (y.k * 3 + 3))))
theorem loopI_from {w : World} {l : List Pc} (w5 : World) (m : Int) {B : Nat} (hB : w5.heap.size ≤ B) : OwnFrom B (LoopI (w := w) (l := l) w5 m) :=
  fun s W W' row hs hg hr => ⟨hs.1, Lay.grown_old hs.2 (fun k e => Nat.le_trans hB (hr k e).1) hg⟩
theorem owns_ne {w : World} {base : Nat} {e : TypeId} {size n : Nat} {v : Value} {xs : List Value} (h : w.ownsRow base e size v n xs) {row : Option Nat} (hr : ∀ r, row = some r → ∃ o : Obj, w.heap[r]? = some o ∧ o.isCells = false) : v.ownBlock = none ∨ v.ownBlock ≠ row := by
  rcases h.2 with ⟨rfl, _⟩ | ⟨g, cap, cur, rfl, hb, hg, _⟩
  · exact .inl rfl
  · refine .inr (fun e => ?_)
    obtain ⟨o, ho, hc⟩ := hr g e.symm
    rw [hg] at ho
    cases ho
    cases hc
theorem loopX_from {w : World} {l : List Pc} (w5 : World) (x : Pc) (own : Value) (n : Nat) (vs : List Value) (base t8 : Nat) (c : Code) {B : Nat} (hB : w5.heap.size ≤ B) (hw : Ext w w5) : OwnFrom B (LoopX (w := w) (l := l) w5 x own n vs base t8 c) := by
  rintro s W W' row ⟨ini, y, h1, h2, h3, h4⟩ hg hr
  refine ⟨ini, y, h1, h2, h3, ?_⟩
  have hr2 : ∀ r, row = some r → ∃ o : Obj, W.heap[r]? = some o ∧ o.isCells = false := fun r e => (hr r e).2
  rcases h4 with ⟨c1, c2, c3⟩ | ⟨c1, c2, c3, c4, q, k, d, c5, c6⟩
  · exact .inl ⟨c1, c2, Lay.grown_old c3 (fun k e => Nat.le_trans hB (hr k e).1) hg⟩
  · refine .inr ⟨c1, c2, Lay.grown_old c3 (fun k e => Nat.le_trans (Nat.le_trans hw.size hB) (hr k e).1) hg, cell_kept c4 hg hr2, q, k, d, ?_, c6.kept hg (owns_ne c6 hr2)⟩
    obtain ⟨vs', o1, o2⟩ := c5
    exact ⟨vs', o1.kept hg (owns_ne o1 hr2), plain_u8.k o2.all⟩
theorem box_from {w5 : World} {B Bx : Nat} {cs : Array Value} {t : TypeId} {Pp : Prop} : OwnFrom B (fun (_ : Unit) W => W.heap[Bx]? = some (.cells cs t (0, 0)) ∧ Pp) := by
  rintro s W W' row ⟨h1, h2⟩ hg hr
  refine ⟨?_, h2⟩
  rw [hg.block Bx (Array.getElem?_eq_some_iff.1 h1).1 (fun e => by
    obtain ⟨_, o, ho, hc⟩ := hr Bx e.symm
    rw [h1] at ho; cases ho; cases hc)]
  exact h1

theorem last_of {w : World} {p : Option Addr} {l : List Pc} {bk ini : List (BkX w l)} {y : BkX w l} {m : Int} (hbk : IsBack w p l bk) (hpre : ini ++ [y] <+: bk) (hini : ∀ z ∈ ini, z.x.i ≠ m) (hyi : y.x.i = m) : LastAt l m (l.take y.k) y.x (l.drop (y.k + 1)) := by
  have hkl : y.k < l.length := (List.getElem?_eq_some_iff.1 y.at_).1
  have hyx : l[y.k] = y.x := (List.getElem?_eq_some_iff.1 y.at_).2
  obtain ⟨t, ht⟩ := hpre
  have hyj : bk[ini.length]? = some y := by rw [← ht]; simp
  have hky := hbk.at_ _ _ hyj
  have hlen : ini.length < l.length := by rw [← hbk.len]; exact (List.getElem?_eq_some_iff.1 hyj).1
  refine ⟨?_, hyi, ?_⟩
  · rw [← hyx, ← List.drop_eq_getElem_cons hkl, List.take_append_drop]
  · intro x' hx'
    obtain ⟨d, hd, rfl⟩ := List.mem_iff_getElem.1 hx'
    have hd' : d < l.length - (y.k + 1) := by simpa using hd
    have hj : l.length - 1 - (y.k + 1 + d) < ini.length := by omega
    obtain ⟨z, hz⟩ : ∃ z, ini[l.length - 1 - (y.k + 1 + d)]? = some z := ⟨_, List.getElem?_eq_getElem hj⟩
    have hzb : bk[l.length - 1 - (y.k + 1 + d)]? = some z := by rw [← ht, List.append_assoc, List.getElem?_append_left hj]; exact hz
    have hzk : z.k = y.k + 1 + d := by rw [hbk.at_ _ _ hzb]; omega
    have h1 := z.at_
    rw [hzk] at h1
    have h2 : (l.drop (y.k + 1))[d] = z.x := by
      rw [List.getElem_drop]
      exact (List.getElem?_eq_some_iff.1 h1).2
    rw [h2]
    exact hini z (List.mem_of_getElem? hz)
theorem none_of {w : World} {p : Option Addr} {l : List Pc} {bk : List (BkX w l)} {m : Int} (hbk : IsBack w p l bk) (h : ∀ y ∈ bk, y.x.i ≠ m) : ∀ x ∈ l, x.i ≠ m := by
  intro x' hx'
  obtain ⟨d, hd, rfl⟩ := List.mem_iff_getElem.1 hx'
  have hj : l.length - 1 - d < bk.length := by rw [hbk.len]; omega
  obtain ⟨z, hz⟩ : ∃ z, bk[l.length - 1 - d]? = some z := ⟨_, List.getElem?_eq_getElem hj⟩
  have hzk : z.k = d := by rw [hbk.at_ _ _ hz]; omega
  have h1 := z.at_
  rw [hzk] at h1
  rw [(List.getElem?_eq_some_iff.1 h1).2]
  exact h z (List.mem_of_getElem? hz)
theorem set_meet {l : List Pc} {k : Nat} {x : Pc} (h : k < l.length) : l.take k ++ x :: l.drop (k + 1) = l.set k x := by
  rw [← set_cut1 l k x h]; simp
theorem owns_form {w : World} {base : Nat} {e : TypeId} {size n : Nat} {v : Value} {xs : List Value} (h : w.ownsRow base e size v n xs) : ∃ p k c, v = .slice p k c := by
  rcases h.2 with ⟨rfl, _⟩ | ⟨g, cap, cur, rfl, _⟩
  · exact ⟨_, _, _, rfl⟩
  · exact ⟨_, _, _, rfl⟩
theorem ext_keeps {B : Nat} {W W2 : World} (h : Ext W W2) : KeepsFrom B W W2 := ⟨h.size, fun k o _ hk _ => by rw [h.block k (Array.getElem?_eq_some_iff.1 hk).1]; exact hk⟩
/-- bytes of one's own, behind what is written elsewhere -/
theorem u8_past {w w' : World} {base : Nat} {v : Value} {d : List Int} {row : Option Nat} (h : (Lay.int .u8).Own w base 5 v d) (hg : w.grownBy w' row) (hne : ∀ r, row = some r → v.ownBlock ≠ some r) : (Lay.int .u8).Own w' base 5 v d :=
  match row, hg, hne with
  | none, hg, _ => by
    obtain ⟨vs, o1, o2⟩ := h
    refine ⟨vs, o1.kept hg ?_, plain_u8.k o2.all⟩
    cases hv : v.ownBlock with
    | none => exact .inl rfl
    | some b => exact .inr (by simp)
  | some r, hg, hne => Lay.Own.kept plain_u8 h hg (hne r rfl)
end Go.Proofs.Ytcajmgdenhegjaa.Wr
