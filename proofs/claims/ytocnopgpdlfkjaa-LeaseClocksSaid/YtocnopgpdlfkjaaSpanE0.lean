/- Spans: how two sets become one. -/
import Derived.Test.YtocnopgpdlfkjaaSpanD0
import Derived.BigRegion
namespace Go.Proofs.Ytocnopgpdlfkjaa.Sp
open Go.RowKit Go.Proofs.Ytocnopgpdlfkjaa
set_option linter.unusedVariables false

theorem bd_at {w : World} {p : Option Addr} {n : Nat} {l : List Bd} (h : LBd.Row w p n l) {j : Nat} {x : Bd} (hj : l[j]? = some x) :
    ∃ b off, p = some ⟨b, off, none⟩ ∧ w.cell? ⟨b, off + j * 3, none⟩ = some (.int .i64 x.1) ∧ w.cell? ⟨b, off + j * 3 + 1, none⟩ = some (.int .i64 x.2.1) ∧ w.cell? ⟨b, off + j * 3 + 2, none⟩ = some (.int .i64 x.2.2) := by
  obtain ⟨b, off, y, cs, rfl, hy, hr, hc⟩ := h.get (j := j) (by rw [← h.1]; exact (List.getElem?_eq_some_iff.1 hj).1)
  obtain rfl : x = y := by simpa [hj] using hy
  obtain ⟨_, _, rfl, ⟨rfl, _⟩, _, _, rfl, ⟨rfl, _⟩, ⟨rfl, _⟩⟩ := hr
  exact ⟨b, off, rfl, hc 0 _ rfl, hc 1 _ rfl, hc 2 _ rfl⟩
theorem opn_snoc {L : List Bd} {k : Nat} {x : Bd} (h : L[k]? = some x) (j : Int) : opn (L.take (k + 1)) j = opn (L.take k) j + (if x.2.1 = j then x.2.2 else 0) := by
  rw [List.take_add_one, h, opn_append]
  show _ + (_ + 0) = _
  omega
/-- how f tells which places count -/
def Tells2 (g : Nat) (f : Bool → Bool → Bool) : Prop := f false false = false ∧ ∀ (x y : Bool) (w : World), Calls Try.prog g #[.bool x, .bool y] w fun e w' => e = .returned (.bool (f x y)) ∧ w = w'

structure OfS (f : Bool → Bool → Bool) (a b : List Span) (L : List Bd) (w1 : World) (B : Nat) (wr : World) (k : Nat) (out : List Span) (ins : Bool) (frm : Int) (v : Value) : Prop where
  sw : Sweep f a b L k out ins frm
  own : LSpan.Own wr w1.heap.size 24 v out
  arr : wr.heap[B]? = some (.cells #[.int .i64 (opn (L.take k) 0), .int .i64 (opn (L.take k) 1)] 85 (0, 0))
  gr : w1.grownBy wr (some B)
  wf : (Lit.int .i64 frm).wf = true
def OfR (f : Bool → Bool → Bool) (a b : List Span) (L : List Bd) (w1 : World) (B n : Nat) (v ins frm i : Value) (wr : World) : Prop :=
  ∃ (k : Nat) (out : List Span) (bi : Bool) (fi : Int), i = .int .i64 k ∧ k ≤ n ∧ ins = .bool bi ∧ frm = .int .i64 fi ∧ OfS f a b L w1 B wr k out bi fi v
theorem OfS.ext {f : Bool → Bool → Bool} {a b : List Span} {L : List Bd} {w1 : World} {B : Nat} {wr W : World} {k : Nat} {out : List Span} {ins : Bool} {frm : Int} {v : Value} (h : OfS f a b L w1 B wr k out ins frm v) (hx : Ext wr W) : OfS f a b L w1 B W k out ins frm v :=
  ⟨h.sw, h.own.ext hx, heap_ext h.arr hx, Lay.grown_trans h.gr (Lay.grown_ext hx _), h.wf⟩
/-- what stands there in the midst of a round -/
structure OfM (L : List Bd) (w1 : World) (B : Nat) (W : World) (k : Nat) (out : List Span) (v : Value) (X : Nat) (x : Bd) : Prop where
  own : LSpan.Own W w1.heap.size 24 v out
  arr : W.heap[B]? = some (.cells #[.int .i64 (opn (L.take (k + 1)) 0), .int .i64 (opn (L.take (k + 1)) 1)] 85 (0, 0))
  gr : w1.grownBy W (some B)
  box : W.cell? ⟨X, 0, none⟩ = some (.int .i64 x.1)
theorem OfM.ext {L : List Bd} {w1 : World} {B : Nat} {wr W : World} {k : Nat} {out : List Span} {v : Value} {X : Nat} {x : Bd} (h : OfM L w1 B wr k out v X x) (hx : Ext wr W) : OfM L w1 B W k out v X x :=
  ⟨h.own.ext hx, heap_ext h.arr hx, Lay.grown_trans h.gr (Lay.grown_ext hx _), hx.cell h.box⟩
theorem OfM.back {f : Bool → Bool → Bool} {a b : List Span} {L : List Bd} {w1 : World} {B : Nat} {W : World} {k : Nat} {out : List Span} {v : Value} {X : Nat} {x : Bd} (h : OfM L w1 B W k out v X x) {ins : Bool} {frm : Int} (hs : Sweep f a b L (k + 1) out ins frm) (hw : (Lit.int .i64 frm).wf = true) : OfS f a b L w1 B W (k + 1) out ins frm v :=
  ⟨hs, h.own, h.arr, h.gr, hw⟩
/-- the count of a set, turned -/
theorem OfM.mk' {f : Bool → Bool → Bool} {a b : List Span} {L : List Bd} {w1 : World} {B : Nat} {wr : World} {k : Nat} {out : List Span} {ins : Bool} {frm : Int} {v : Value} (h : OfS f a b L w1 B wr k out ins frm v) (hB : B < w1.heap.size)
    {t : Int} {s : Nat} {st : Int} (hx : L[k]? = some (t, (s : Int), st)) (hs : s < 2) {W : World} (hW : Ext wr W) {u : Int} (hu : u = opn (L.take k) (s : Int) + st) {X : Nat} (hX : W.cell? ⟨X, 0, none⟩ = some (.int .i64 t)) (hXB : w1.heap.size ≤ X) :
    OfM L w1 B (W.setCell ⟨B, s, none⟩ (.int .i64 u)) k out v X (t, (s : Int), st) := by
  have h' := h.ext hW
  refine ⟨h'.own.kept plain_span (Lay.grown_set W B s _) ?_, ?_, Lay.grown_trans h'.gr (Lay.grown_set W B s _), ?_⟩
  · intro e
    have := (h'.own.lt B e).1
    omega
  · rw [heap_setCell_same _ _ _ _ _ _ h'.arr]
    have e0 := opn_snoc hx 0
    have e1 := opn_snoc hx 1
    simp only at e0 e1
    have : s = 0 ∨ s = 1 := by omega
    rcases this with rfl | rfl
    · simp at e0 e1
      rw [e0, e1, hu]; rfl
    · simp at e0 e1
      rw [e0, e1, hu]; rfl
  · rw [World.cell?_setCell_other _ _ _ _ (fun e => by
      have h1 : B = X := congrArg Addr.block e
      omega)]
    exact hX
def RetOf (f : Bool → Bool → Bool) (a b : List Span) (w : World) (e : Ending) (w' : World) : Prop := (∃ v, e = .returned v ∧ LSpan.Own w' w.heap.size 24 v (ofL f a b)) ∧ Hid (IsOf f a b (ofL f a b)) ∧ Ext w w'
theorem of_appended {L : List Bd} {w1 : World} {B : Nat} {W W1 w2 : World} {k : Nat} {out : List Span} {v : Value} {X : Nat} {x : Bd} (h : OfM L w1 B W k out v X x) (hB : B < w1.heap.size ∧ w1.heap.size ≤ X ∧ v.ownBlock ≠ some X) (hx : Ext W W1) (hg : W1.grownBy w2 v.ownBlock) :
    w2.heap[B]? = some (.cells #[.int .i64 (opn (L.take (k + 1)) 0), .int .i64 (opn (L.take (k + 1)) 1)] 85 (0, 0)) ∧ w1.grownBy w2 (some B) ∧ w2.cell? ⟨X, 0, none⟩ = some (.int .i64 x.1) := by
  have h' := h.ext hx
  have hb : ∀ i, v.ownBlock = some i → w1.heap.size ≤ i := fun i e => (h'.own.lt i e).1
  refine ⟨?_, Lay.grown_past h'.gr hg hb, ?_⟩
  · rw [hg.block B (Array.getElem?_eq_some_iff.1 h'.arr).1 (fun e => by have := hb B e.symm; omega)]; exact h'.arr
  · have := h'.box
    have hl := World.block_lt_of_cell? _ _ this
    rw [← this]
    simp only [World.cell?, hg.block X hl (fun e => hB.2.2 e.symm)]

set_option maxRecDepth 100000 in
set_option maxHeartbeats 8000000 in
theorem of_any (g : Nat) (f : Bool → Bool → Bool) (hf : Tells2 g f) (hg : ∀ args w, (callFunc g args).run Try.prog w = .ok (.enter g args) w) (p q : Option Addr) (n c m d : Nat) (a b : List Span) (w : World) (hl : LSpan.Row w p n a) (hk : LSpan.Row w q m b) (hnc : n ≤ c) (hmd : m ≤ d) (hc : c ≤ 9223372036854775807) (hd : d ≤ 9223372036854775807) (hpl : Pl p c) (hql : Pl q d) (hn : n + m ≤ 100000) :
    Calls Try.prog 60 #[.agg #[.func (.func g) #[] #[]], .slice p n c, .slice q m d] w (RetOf f a b w) := by
  obtain ⟨i0, hi0, hzi0, hzi1, hzi2⟩ := info_parts info_span
  have HF := Lib.hid hf
  have hn6 : Hid (a.length + b.length ≤ 100000) := Lib.hid (by rw [hl.1, hk.1]; exact hn)
  have HSZ : Hid (((w.alloc (.cells #[.func (.func g) #[] #[]] 78)).alloc (.cells #[.int .i64 0, .int .i64 0] 85)).heap.size = w.heap.size + 1 + 1) := Lib.hid (by simp)
  have HXA : Hid (Ext w ((w.alloc (.cells #[.func (.func g) #[] #[]] 78)).alloc (.cells #[.int .i64 0, .int .i64 0] 85))) := Lib.hid (by (unfold Ext; repeat (first | exact Below.refl _ _ | assumption | refine Below.drew ?_ | refine below_drewN ?_ _ | refine Below.alloc ?_ (by first | exact Nat.le_refl _ | (simp; done) | (simp; omega) | omega) _ | refine Below.setCell ?_ (by first | exact Nat.le_refl _ | (simp; done) | (simp; omega) | omega) _)))
  have HAB : Hid ((((w.alloc (.cells #[.func (.func g) #[] #[]] 78)).alloc (.cells #[.int .i64 0, .int .i64 0] 85)).alloc (.cells #[.slice p n c, .slice q m d] 60)).heap[w.heap.size + 1]? = some (.cells #[.int .i64 0, .int .i64 0] 85 (0, 0))) := Lib.hid (heap_ext (w := ((w.alloc (.cells #[.func (.func g) #[] #[]] 78)).alloc (.cells #[.int .i64 0, .int .i64 0] 85))) (by
    have := heap_alloc_new (w.alloc (.cells #[.func (.func g) #[] #[]] 78)) (.cells #[.int .i64 0, .int .i64 0] 85); simpa using this) (Ext.alloc _ _))
  have HAF : Hid ((((w.alloc (.cells #[.func (.func g) #[] #[]] 78)).alloc (.cells #[.int .i64 0, .int .i64 0] 85)).alloc (.cells #[.slice p n c, .slice q m d] 60)).cell? ⟨w.heap.size, 0, none⟩ = some (.func (.func g) #[] #[])) := Lib.hid ((Ext.alloc ((w.alloc (.cells #[.func (.func g) #[] #[]] 78)).alloc (.cells #[.int .i64 0, .int .i64 0] 85)) _).cell ((Ext.alloc _ _).cell (new_cell w _ _)))
  have HSS : Hid (LSpan.slice.Row (((w.alloc (.cells #[.func (.func g) #[] #[]] 78)).alloc (.cells #[.int .i64 0, .int .i64 0] 85)).alloc (.cells #[.slice p n c, .slice q m d] 60)) (some ⟨w.heap.size + 1 + 1, 0, none⟩) 2 [a, b]) := Lib.hid
    (Lay.Row.lit (E := LSpan.slice) (Ext.refl _) (Lay.all_sl2 ⟨_, _, _, rfl, hl.ext (Ext.trans HXA.out (Ext.alloc _ _)), hnc, hc, hpl⟩ ⟨_, _, _, rfl, hk.ext (Ext.trans HXA.out (Ext.alloc _ _)), hmd, hd, hql⟩) HSZ.out rfl (by omega))
  have HXB : Hid (Ext w (((w.alloc (.cells #[.func (.func g) #[] #[]] 78)).alloc (.cells #[.int .i64 0, .int .i64 0] 85)).alloc (.cells #[.slice p n c, .slice q m d] 60))) := Lib.hid (Ext.trans HXA.out (Ext.alloc _ _))
  have HBD := Lib.hid (bounds_any (some ⟨w.heap.size + 1 + 1, 0, none⟩) 2 a b (((w.alloc (.cells #[.func (.func g) #[] #[]] 78)).alloc (.cells #[.int .i64 0, .int .i64 0] 85)).alloc (.cells #[.slice p n c, .slice q m d] 60)) HSS.out hn6.out)
  clear hl hk hf hpl hql hn HXA HSZ HSS
  go_enter Try.func60, Try.ntmps60
  go_wp2_with fail
  (with_reducible refine HBD.out.mono ?_)
  rintro e w1 ⟨⟨vL, L, rfl, ⟨pL, nL, cL, rfl, hr, hlc, hcc, hpL⟩, hgL, HB⟩, hx1⟩
  have HN : Hid (L.length = nL) := Lib.hid hr.1
  have hn63 := hr.2.1
  have HR := Lib.hid hr
  have HXW := Lib.hid (Ext.trans HXB.out hx1)
  have HSZ : Hid (w.heap.size + 3 ≤ w1.heap.size) := Lib.hid (by have := hx1.size; simpa using this)
  have HBW : Hid (∀ bb off, pL = some ⟨bb, off, none⟩ → some (w.heap.size + 1) ≠ some bb) := Lib.hid (fun bb off e h => by
    have := hgL bb (by rw [e]; rfl)
    simp at h this
    omega)
  have HAB1 := Lib.hid (heap_ext HAB.out hx1)
  have HAF1 := Lib.hid (hx1.cell HAF.out)
  have HL6 : Hid (nL ≤ 200001) := Lib.hid (by rw [← HN.out]; have := HB.out.len; have := hn6.out; omega)
  clear hr hx1 HAB HAF HXB HBD hgL hn6
  go_wp2
  go_loopw [7, 9, 10, 21] (fun v ins frm i wr => OfR f a b L w1 (w.heap.size + 1) nL v ins frm i wr) (fun _ _ _ i _ => nL - (intOf i).toNat)
  case atStart => exact ⟨0, [], false, 0, rfl, by omega, rfl, rfl, ⟨Sweep.start HF.out.1 HB.out, Lay.Own.nil _ _ _ _, by simpa [opn] using HAB1.out, World.grownBy.refl _ _, by decide⟩⟩
  case round =>
    obtain ⟨k, out, bi, fi, rfl, hk, rfl, rfl, hS⟩ := hrel
    have HS := Lib.hid hS
    clear hS
    by_cases hlt : k < nL
    · obtain ⟨x, gx⟩ := get_of L k (by rw [HN.out]; exact hlt)
      have HRW := Lib.hid (plain_bd.row_other HR.out HS.out.gr HBW.out)
      obtain ⟨bb, off, rfl, c0, c1, c2⟩ := bd_at HRW.out gx
      have hm := HB.out.mem (List.mem_of_getElem? gx)
      obtain ⟨t, sI, st⟩ := x
      simp only at c0 c1 c2 hm
      obtain ⟨s, rfl⟩ : ∃ s : Nat, sI = (s : Int) := ⟨sI.toNat, by omega⟩
      have hs2 : s < 2 := by omega
      have hs2' : (s : Int) < 2 := by omega
      have hs0 : (0 : Int) ≤ (s : Int) := by omega
      have hst : -1 ≤ st ∧ st ≤ 1 := by omega
      obtain ⟨hst1, hst2⟩ := hst
      have ca : wr.cell? ⟨w.heap.size + 1, s, none⟩ = some (.int .i64 (opn (L.take k) (s : Int))) := by
        rw [cell_of_row _ _ s _ _ _ HS.out.arr]
        have : s = 0 ∨ s = 1 := by omega
        rcases this with rfl | rfl <;> rfl
      have fa : wr.frozen? ⟨w.heap.size + 1, s, none⟩ = false := frozen_of_row wr _ s _ _ HS.out.arr
      obtain ⟨ob1, ob2⟩ := HB.out.opn k (s : Int)
      rw [HN.out] at ob1 ob2
      obtain ⟨o, ho⟩ : ∃ o, opn (L.take k) (s : Int) = o := ⟨_, rfl⟩
      rw [ho] at ca ob1 ob2
      have HOO := Lib.hid ho
      have HGX := Lib.hid gx
      have hl6 := HL6.out
      have hw1 : IntKind.i64.wrap (o + st) = o + st := IntWalk.i64_in _ (by omega)
      have hlt' : (k : Int) < (nL : Int) := by omega
      have hlt0 : (0 : Int) ≤ (k : Int) := by omega
      obtain ⟨W0, hW0⟩ : ∃ W0, wr.alloc (.cells #[.int .i64 t, .int .i64 (s : Int), .int .i64 st] 89) = W0 := ⟨_, rfl⟩
      have hx0 : Ext wr W0 := by rw [← hW0]; exact Ext.alloc _ _
      have x0 : W0.cell? ⟨wr.heap.size, 0, none⟩ = some (.int .i64 t) := by rw [← hW0]; exact cell_of_row _ _ 0 _ _ _ (heap_alloc_new wr _)
      have x1 : W0.cell? ⟨wr.heap.size, 1, none⟩ = some (.int .i64 (s : Int)) := by rw [← hW0]; exact cell_of_row _ _ 1 _ _ _ (heap_alloc_new wr _)
      have x2 : W0.cell? ⟨wr.heap.size, 2, none⟩ = some (.int .i64 st) := by rw [← hW0]; exact cell_of_row _ _ 2 _ _ _ (heap_alloc_new wr _)
      have ca0 := hx0.cell ca
      have fa0 : W0.frozen? ⟨w.heap.size + 1, s, none⟩ = false := frozen_of_row W0 _ s _ _ (heap_ext HS.out.arr hx0)
      have HX0 := Lib.hid hx0
      have HX00 := Lib.hid x0
      have HXS : Hid (w1.heap.size ≤ wr.heap.size) := Lib.hid HS.out.gr.size
      clear ho gx hm ca fa
      go_wp2
      clear hW0
      go_region
      have HM0 : Hid (OfM L w1 (w.heap.size + 1) (W0.setCell ⟨w.heap.size + 1, s, none⟩ (.int .i64 (o + st))).drew k out u7 wr.heap.size (t, (s : Int), st)) := Lib.hid ((OfM.mk' HS.out (by have := HSZ.out; omega) HGX.out hs2 HX0.out (by rw [HOO.out]) HX00.out HXS.out).ext ((Ext.refl _).drew))
      generalize (W0.setCell ⟨w.heap.size + 1, s, none⟩ (.int .i64 (o + st))).drew = W at HM0 ⊢
      have HM := HM0
      have a0 := cell_of_row _ _ 0 _ _ _ HM.out.arr
      have a1 := cell_of_row _ _ 1 _ _ _ HM.out.arr
      simp only [List.getElem?_toArray, List.getElem?_cons_zero, List.getElem?_cons_succ] at a0 a1
      have af : W.cell? ⟨w.heap.size, 0, none⟩ = some (.func (.func g) #[] #[]) := by
        have h1 := HAF1.out
        rw [← h1]
        simp only [World.cell?, HM.out.gr.block w.heap.size (by have := HSZ.out; omega) (by simp)]
      have bx := HM.out.box
      obtain ⟨cc, hcc⟩ : ∃ cc, f (decide (0 < opn (L.take (k + 1)) 0)) (decide (0 < opn (L.take (k + 1)) 1)) = cc := ⟨_, rfl⟩
      have HCC : Hid (cntAt f L k = cc) := Lib.hid hcc
      obtain ⟨o0, ho0⟩ : ∃ o0, opn (L.take (k + 1)) 0 = o0 := ⟨_, rfl⟩
      obtain ⟨o1, ho1⟩ : ∃ o1, opn (L.take (k + 1)) 1 = o1 := ⟨_, rfl⟩
      rw [ho0] at a0 hcc
      rw [ho1] at a1 hcc
      have HCD := Lib.hid hcc
      have HSW := Lib.hid HS.out.sw
      have HFW := Lib.hid HS.out.wf
      have HTW : Hid ((Lit.int .i64 t).wf = true) := Lib.hid (bd_wf (HB.out.mem (List.mem_of_getElem? HGX.out))).1
      have HLE : Hid (out.length + 1 ≤ 1000000) := Lib.hid (by have := HSW.out.len; omega)
      have HB1 : Hid (w.heap.size + 1 < w1.heap.size ∧ w1.heap.size ≤ wr.heap.size ∧ u7.ownBlock ≠ some wr.heap.size) := Lib.hid ⟨by have := HSZ.out; omega, HXS.out, fun e => by have := (HS.out.own.lt _ e).2; omega⟩
      have HRW2 := Lib.hid (plain_bd.row_other HR.out HM.out.gr HBW.out)
      clear hcc ho0 ho1 c0 c1 c2 x0 x1 x2 ca0 fa0 hx0 HM0 HX0 HX00
      go_wp2_with fail
      refine (HF.out.2 _ _ _).mono ?_
      rintro e w' ⟨rfl, rfl⟩
      first | rw [HCD.out] | skip
      by_cases hk1 : k + 1 < nL
      · obtain ⟨y, gy⟩ := get_of L (k + 1) (by rw [HN.out]; exact hk1)
        obtain ⟨bb', off', hbo, c3, _, _⟩ := bd_at HRW2.out gy
        simp only [Option.some.injEq, Addr.mk.injEq, and_true] at hbo
        obtain ⟨rfl, rfl⟩ := hbo
        have hk1' : (k : Int) + 1 < (nL : Int) := by omega
        have hk1d : decide ((k : Int) + 1 < (nL : Int)) = true := decide_eq_true hk1'
        have hk10 : (0 : Int) ≤ (k : Int) + 1 := by omega
        obtain ⟨ty, sy⟩ := y
        simp only at c3
        have GY := Lib.hid gy
        clear gy
        by_cases he : ty = t
        · have hed : (ty == t) = true := by simp [he]
          have HE := Lib.hid he
          clear he
          go_wp2
          go_quiet (fail)
          go_wp2
          go_roundw
          case rel => exact ⟨k + 1, out, _, fi, by go_num, by omega, rfl, rfl, (HM.out.ext (by (unfold Ext; repeat (first | exact Below.refl _ _ | assumption | refine Below.drew ?_ | refine below_drewN ?_ _ | refine Below.alloc ?_ (by first | exact Nat.le_refl _ | (simp; done) | (simp; omega) | omega) _ | refine Below.setCell ?_ (by first | exact Nat.le_refl _ | (simp; done) | (simp; omega) | omega) _)))).back (HSW.out.same HB.out HGX.out GY.out HE.out) HFW.out⟩
          case measure => simp [intOf]; omega

        · have hed : (ty == t) = false := by simp [he]
          have HLA := Lib.hid (lastAt_next HB.out HGX.out GY.out he)
          clear he
          go_wp2
          go_quiet (fail)
          cases bi
          · cases cc
            · go_wp2
              go_roundw
              case rel => exact ⟨k + 1, out, _, fi, by go_num, by omega, rfl, rfl, (HM.out.ext (by (unfold Ext; repeat (first | exact Below.refl _ _ | assumption | refine Below.drew ?_ | refine below_drewN ?_ _ | refine Below.alloc ?_ (by first | exact Nat.le_refl _ | (simp; done) | (simp; omega) | omega) _ | refine Below.setCell ?_ (by first | exact Nat.le_refl _ | (simp; done) | (simp; omega) | omega) _)))).back (HSW.out.stay HB.out HGX.out HLA.out HCC.out) HFW.out⟩
              case measure => simp [intOf]; omega
            · go_wp2
              go_quiet (fail)
              go_wp2
              go_roundw
              case rel => exact ⟨k + 1, out, _, t, by go_num, by omega, rfl, rfl, (HM.out.ext (by (unfold Ext; repeat (first | exact Below.refl _ _ | assumption | refine Below.drew ?_ | refine below_drewN ?_ _ | refine Below.alloc ?_ (by first | exact Nat.le_refl _ | (simp; done) | (simp; omega) | omega) _ | refine Below.setCell ?_ (by first | exact Nat.le_refl _ | (simp; done) | (simp; omega) | omega) _)))).back (HSW.out.opens HB.out HGX.out HLA.out HCC.out) HTW.out⟩
              case measure => simp [intOf]; omega
          · cases cc
            · go_wp2_with (at_builtin; refine Lay.wpList_append (E := LSpan) rfl (.tmp 66) (.tmp 71) 60 rfl w1.heap.size 24 i0 (.agg #[.int .i64 0, .int .i64 0]) 16 Try.underlying60 hi0 hzi0 hzi1 hzi2 rfl _ (out) rfl (HM.out.own.ext (by (unfold Ext; repeat (first | exact Below.refl _ _ | assumption | refine Below.drew ?_ | refine below_drewN ?_ _ | refine Below.alloc ?_ (by first | exact Nat.le_refl _ | (simp; done) | (simp; omega) | omega) _ | refine Below.setCell ?_ (by first | exact Nat.le_refl _ | (simp; done) | (simp; omega) | omega) _)))) (some ⟨W.heap.size, 0, none⟩) 1 1 ([(fi, t)]) rfl (fun _ => ⟨_, _, rfl⟩) (by omega) (plain_span.lit (Ext.refl _) (Lay.All.single ⟨_, _, rfl, ⟨rfl, HFW.out⟩, ⟨rfl, HTW.out⟩⟩) rfl rfl (by omega)) (by have := HLE.out; unfold maxLen; omega) (by have := HLE.out; omega) (by have := HM.out.gr.size; simp; omega) ?_; intro v2 w2 hown2 hg2; have HO3 := Lib.hid hown2; have HM3 := Lib.hid (of_appended HM.out HB1.out (by (unfold Ext; repeat (first | exact Below.refl _ _ | assumption | refine Below.drew ?_ | refine below_drewN ?_ _ | refine Below.alloc ?_ (by first | exact Nat.le_refl _ | (simp; done) | (simp; omega) | omega) _ | refine Below.setCell ?_ (by first | exact Nat.le_refl _ | (simp; done) | (simp; omega) | omega) _))) hg2); have cb2 := HM3.out.2.2; clear hown2 hg2)
              go_quiet (fail)
              go_wp2
              go_roundw
              case rel => exact ⟨k + 1, out ++ [(fi, t)], _, t, by go_num, by omega, rfl, rfl, OfS.ext ⟨HSW.out.close HB.out HGX.out HLA.out HCC.out, HO3.out, HM3.out.1, HM3.out.2.1, HTW.out⟩ (by (unfold Ext; repeat (first | exact Below.refl _ _ | assumption | refine Below.drew ?_ | refine below_drewN ?_ _ | refine Below.alloc ?_ (by first | exact Nat.le_refl _ | (simp; done) | (simp; omega) | omega) _ | refine Below.setCell ?_ (by first | exact Nat.le_refl _ | (simp; done) | (simp; omega) | omega) _)))⟩
              case measure => simp [intOf]; omega
            · go_wp2
              go_roundw
              case rel => exact ⟨k + 1, out, _, fi, by go_num, by omega, rfl, rfl, (HM.out.ext (by (unfold Ext; repeat (first | exact Below.refl _ _ | assumption | refine Below.drew ?_ | refine below_drewN ?_ _ | refine Below.alloc ?_ (by first | exact Nat.le_refl _ | (simp; done) | (simp; omega) | omega) _ | refine Below.setCell ?_ (by first | exact Nat.le_refl _ | (simp; done) | (simp; omega) | omega) _)))).back (HSW.out.stay HB.out HGX.out HLA.out HCC.out) HFW.out⟩
              case measure => simp [intOf]; omega

      · have hk1' : ¬ ((k : Int) + 1 < (nL : Int)) := by omega
        have hk1d : decide ((k : Int) + 1 < (nL : Int)) = false := decide_eq_false hk1'
        have HLA : Hid (LastAt L k (t, (s : Int), st)) := Lib.hid (lastAt_end (by rw [HN.out]; omega))
        go_wp2
        go_quiet (fail)
        cases bi
        · cases cc
          · go_wp2
            go_roundw
            case rel => exact ⟨k + 1, out, _, fi, by go_num, by omega, rfl, rfl, (HM.out.ext (by (unfold Ext; repeat (first | exact Below.refl _ _ | assumption | refine Below.drew ?_ | refine below_drewN ?_ _ | refine Below.alloc ?_ (by first | exact Nat.le_refl _ | (simp; done) | (simp; omega) | omega) _ | refine Below.setCell ?_ (by first | exact Nat.le_refl _ | (simp; done) | (simp; omega) | omega) _)))).back (HSW.out.stay HB.out HGX.out HLA.out HCC.out) HFW.out⟩
            case measure => simp [intOf]; omega
          · go_wp2
            go_quiet (fail)
            go_wp2
            go_roundw
            case rel => exact ⟨k + 1, out, _, t, by go_num, by omega, rfl, rfl, (HM.out.ext (by (unfold Ext; repeat (first | exact Below.refl _ _ | assumption | refine Below.drew ?_ | refine below_drewN ?_ _ | refine Below.alloc ?_ (by first | exact Nat.le_refl _ | (simp; done) | (simp; omega) | omega) _ | refine Below.setCell ?_ (by first | exact Nat.le_refl _ | (simp; done) | (simp; omega) | omega) _)))).back (HSW.out.opens HB.out HGX.out HLA.out HCC.out) HTW.out⟩
            case measure => simp [intOf]; omega
        · cases cc
          · go_wp2_with (at_builtin; refine Lay.wpList_append (E := LSpan) rfl (.tmp 66) (.tmp 71) 60 rfl w1.heap.size 24 i0 (.agg #[.int .i64 0, .int .i64 0]) 16 Try.underlying60 hi0 hzi0 hzi1 hzi2 rfl _ (out) rfl (HM.out.own.ext (by (unfold Ext; repeat (first | exact Below.refl _ _ | assumption | refine Below.drew ?_ | refine below_drewN ?_ _ | refine Below.alloc ?_ (by first | exact Nat.le_refl _ | (simp; done) | (simp; omega) | omega) _ | refine Below.setCell ?_ (by first | exact Nat.le_refl _ | (simp; done) | (simp; omega) | omega) _)))) (some ⟨W.heap.size, 0, none⟩) 1 1 ([(fi, t)]) rfl (fun _ => ⟨_, _, rfl⟩) (by omega) (plain_span.lit (Ext.refl _) (Lay.All.single ⟨_, _, rfl, ⟨rfl, HFW.out⟩, ⟨rfl, HTW.out⟩⟩) rfl rfl (by omega)) (by have := HLE.out; unfold maxLen; omega) (by have := HLE.out; omega) (by have := HM.out.gr.size; simp; omega) ?_; intro v2 w2 hown2 hg2; have HO3 := Lib.hid hown2; have HM3 := Lib.hid (of_appended HM.out HB1.out (by (unfold Ext; repeat (first | exact Below.refl _ _ | assumption | refine Below.drew ?_ | refine below_drewN ?_ _ | refine Below.alloc ?_ (by first | exact Nat.le_refl _ | (simp; done) | (simp; omega) | omega) _ | refine Below.setCell ?_ (by first | exact Nat.le_refl _ | (simp; done) | (simp; omega) | omega) _))) hg2); have cb2 := HM3.out.2.2; clear hown2 hg2)
            go_quiet (fail)
            go_wp2
            go_roundw
            case rel => exact ⟨k + 1, out ++ [(fi, t)], _, t, by go_num, by omega, rfl, rfl, OfS.ext ⟨HSW.out.close HB.out HGX.out HLA.out HCC.out, HO3.out, HM3.out.1, HM3.out.2.1, HTW.out⟩ (by (unfold Ext; repeat (first | exact Below.refl _ _ | assumption | refine Below.drew ?_ | refine below_drewN ?_ _ | refine Below.alloc ?_ (by first | exact Nat.le_refl _ | (simp; done) | (simp; omega) | omega) _ | refine Below.setCell ?_ (by first | exact Nat.le_refl _ | (simp; done) | (simp; omega) | omega) _)))⟩
            case measure => simp [intOf]; omega
          · go_wp2
            go_roundw
            case rel => exact ⟨k + 1, out, _, fi, by go_num, by omega, rfl, rfl, (HM.out.ext (by (unfold Ext; repeat (first | exact Below.refl _ _ | assumption | refine Below.drew ?_ | refine below_drewN ?_ _ | refine Below.alloc ?_ (by first | exact Nat.le_refl _ | (simp; done) | (simp; omega) | omega) _ | refine Below.setCell ?_ (by first | exact Nat.le_refl _ | (simp; done) | (simp; omega) | omega) _)))).back (HSW.out.stay HB.out HGX.out HLA.out HCC.out) HFW.out⟩
            case measure => simp [intOf]; omega

    · obtain rfl : k = nL := by omega
      have HI : Hid (IsOf f a b out) := Lib.hid (HS.out.sw.done HF.out.1 HB.out (by rw [HN.out]; omega) (by rw [HN.out]; exact HS.out.sw.len))
      have HO : Hid (LSpan.Own wr w.heap.size 24 u7 out ∧ Ext w wr) := Lib.hid ⟨HS.out.own.base (by have := HSZ.out; omega), Lay.grown_old HXW.out (fun q hq => by injection hq with hq; omega) HS.out.gr⟩
      go_wp2
      go_ret
      exact ⟨⟨_, rfl, by have := HO.out.1; rw [HI.out.is.1] at this; exact this⟩, Lib.hid HI.out.is.2, HO.out.2⟩
end Go.Proofs.Ytocnopgpdlfkjaa.Sp
