/- Spans: the document's own: the spans of the places that count, by trying all bounds. -/
import Derived.Test.YtdpaagingfeoeaaSpanB
import Derived.Test.YtdpaagingfeoeaaSpanE
import Derived.Deep.RegionLaw
namespace Go.Proofs.Ytdpaagingfeoeaa.Sp
open Go.RowKit Go.Proofs.Ytdpaagingfeoeaa
set_option linter.unusedVariables false

theorem span_all {w : World} : ∀ {l : List Span} {vs : List Value}, LSpan.All w vs l → vs.length = l.length * 2
  | [], vs, h => by obtain rfl : vs = [] := h; rfl
  | x :: l, vs, h => by
    obtain ⟨cs, vs', rfl, ⟨_, _, rfl, ⟨rfl, _⟩, ⟨rfl, _⟩⟩, h4⟩ := h
    have := span_all h4
    simp [this]; omega
/-- the last one's end, written anew -/
theorem set_last {w : World} {g t y : Int} (hy : (Lit.int .i64 y).wf = true) : ∀ {l : List Span} {vs : List Value}, LSpan.All w vs (l ++ [(g, t)]) → LSpan.All w (vs.set (l.length * 2 + 1) (.int .i64 y)) (l ++ [(g, y)])
  | [], vs, h => by
    obtain ⟨cs, vs', rfl, ⟨_, _, rfl, ⟨rfl, h1⟩, ⟨rfl, h2⟩⟩, h4⟩ := h
    obtain rfl : vs' = [] := h4
    exact ⟨[.int .i64 g, .int .i64 y], [], rfl, ⟨[.int .i64 g], [.int .i64 y], rfl, ⟨rfl, h1⟩, ⟨rfl, hy⟩⟩, rfl⟩
  | x :: l, vs, h => by
    obtain ⟨cs, vs', rfl, ⟨_, _, rfl, ⟨rfl, h1⟩, ⟨rfl, h2⟩⟩, h4⟩ := h
    have := set_last hy h4
    refine ⟨[.int .i64 x.1, .int .i64 x.2], vs'.set (l.length * 2 + 1) (.int .i64 y), ?_, ⟨[.int .i64 x.1], [.int .i64 x.2], rfl, ⟨rfl, h1⟩, ⟨rfl, h2⟩⟩, this⟩
    rw [show (x :: l).length * 2 + 1 = l.length * 2 + 1 + 1 + 1 by simp; omega]
    rfl
theorem row_ne {α : Type} {E : Lay α} {w : World} {p : Option Addr} {n : Nat} {l : List α} {B : Nat} {t : TypeId} {fr : Nat × Nat} (h : E.Row w p n l) (hn : 0 < n) (hB : w.heap[B]? = some (.cells #[] t fr)) : ∀ b off, p = some ⟨b, off, none⟩ → some B ≠ some b := by
  intro b off e e2
  injection e2 with e2
  subst e2
  obtain ⟨b', off', x, cs, hp, _, hr, hc⟩ := h.get hn
  rw [hp] at e
  simp only [Option.some.injEq, Addr.mk.injEq, and_true] at e
  obtain ⟨rfl, rfl⟩ := e
  have hl := E.len hr
  have hpos := E.pos
  have := hc 0 _ (List.getElem?_eq_getElem (by omega))
  rw [cell_of_row _ _ _ _ _ _ hB] at this
  simp at this
theorem grown_in {w1 a b : World} {row r2 : Option Nat} (h : w1.grownBy a row) (k : a.grownBy b r2) (hr : ∀ i, r2 = some i → w1.heap.size ≤ i ∨ row = some i) : w1.grownBy b row :=
  ⟨k.os.trans h.os, k.tape.trans h.tape, k.output.trans h.output, Nat.le_trans h.size k.size, fun i hi hne => by
    rw [k.block i (Nat.lt_of_lt_of_le hi h.size) (fun e => by rcases hr i e.symm with h | h; · omega
                                                              · exact hne h.symm)]; exact h.block i hi hne⟩
structure RofS (f : Bool → Bool → Bool) (a b : List Span) (m : List Int) (w w3 : World) (B : Nat) (wr : World) (k : Nat) (x : Int) (out : List Span) (v : Value) : Prop where
  tr : Tried f a b x k out
  at_ : m[k]? = some x
  own : LSpan.Own wr w.heap.size 33 v out
  blk : ∀ i, v.ownBlock = some i → w3.heap.size ≤ i ∨ some B = some i
  gr : w3.grownBy wr (some B)
theorem RofS.ext {f : Bool → Bool → Bool} {a b : List Span} {m : List Int} {w w3 : World} {B : Nat} {wr W : World} {k : Nat} {x : Int} {out : List Span} {v : Value} (h : RofS f a b m w w3 B wr k x out v) (hx : Ext wr W) : RofS f a b m w w3 B W k x out v :=
  ⟨h.tr, h.at_, h.own.ext hx, h.blk, Lay.grown_trans h.gr (Lay.grown_ext hx _)⟩
def RofR (f : Bool → Bool → Bool) (a b : List Span) (m : List Int) (w w3 : World) (B n : Nat) (v i : Value) (wr : World) : Prop :=
  ∃ (k : Nat) (x : Int) (out : List Span), i = .int .i64 k ∧ k < n ∧ RofS f a b m w w3 B wr k x out v
theorem RofS.not {f : Bool → Bool → Bool} {a b : List Span} {m : List Int} {w w3 : World} {B : Nat} {wr : World} {k : Nat} {x y : Int} {out : List Span} {v : Value} (h : RofS f a b m w w3 B wr k x out v) (hm : AllOk a b m) (hy : m[k + 1]? = some y) (hc : gB f a b x = false) : RofS f a b m w w3 B wr (k + 1) y out v :=
  ⟨h.tr.not hm h.at_ hy hc, hy, h.own, h.blk, h.gr⟩
theorem list_snoc {α : Type} (l : List α) : l = [] ∨ ∃ p x, l = p ++ [x] := by
  rcases List.eq_nil_or_concat l with h | ⟨p, x, h⟩
  · exact .inl h
  · exact .inr ⟨p, x, by simpa using h⟩

theorem RofS.new {f : Bool → Bool → Bool} {a b : List Span} {m : List Int} {w w3 : World} {B : Nat} {wr W w2 : World} {k : Nat} {x y : Int} {out : List Span} {v v2 : Value} (h : RofS f a b m w w3 B wr k x out v) (hm : AllOk a b m) (hy : m[k + 1]? = some y) (hc : gB f a b x = true) (hn : ∀ s ∈ out, s.2 ≠ x) (hx : Ext wr W) (hown : LSpan.Own w2 w.heap.size 33 v2 (out ++ [(x, y)])) (hg : W.grownBy w2 v.ownBlock) (hat : v2.ownBlock = v.ownBlock ∨ v2.ownBlock = some W.heap.size) : RofS f a b m w w3 B w2 (k + 1) y (out ++ [(x, y)]) v2 := by
  refine ⟨h.tr.new hm h.at_ hy hc hn, hy, hown, fun i hi => ?_, grown_in (Lay.grown_trans h.gr (Lay.grown_ext hx _)) hg h.blk⟩
  rcases hat with e | e
  · rw [e] at hi; exact h.blk i hi
  · rw [e] at hi
    injection hi with hi
    have := h.gr.size
    have := hx.size
    left; omega
theorem RofS.more {f : Bool → Bool → Bool} {a b : List Span} {m : List Int} {w w3 : World} {B : Nat} {wr : World} {k : Nat} {x y g : Int} {pre : List Span} {gb n cap : Nat} (h : RofS f a b m w w3 B wr k x (pre ++ [(g, x)]) (.slice (some ⟨gb, 0, none⟩) n cap)) (hm : AllOk a b m) (hy : m[k + 1]? = some y) (hc : gB f a b x = true) (hn : n = pre.length + 1) (hw : (Lit.int .i64 y).wf = true) : RofS f a b m w w3 B (wr.setCell ⟨gb, pre.length * 2 + 1, none⟩ (.int .i64 y)) (k + 1) y (pre ++ [(g, y)]) (.slice (some ⟨gb, 0, none⟩) n cap) := by
  obtain ⟨h1, h2⟩ := plain_span.stored h.own (by simp [hn]) (l' := pre ++ [(g, y)]) (by simp [hn]) (pre.length * 2 + 1) (.int .i64 y) fun vs hv => set_last hw hv
  exact ⟨h.tr.more hm h.at_ hy hc, hy, h1, h.blk, grown_in h.gr h2 h.blk⟩

theorem own_empty_at {α : Type} {E : Lay α} {w : World} {B base : Nat} {e : TypeId} (h : w.heap[B]? = some (.cells #[] e (0, 0))) (hb : base ≤ B) : E.Own w base e (.slice (some ⟨B, 0, none⟩) 0 0) [] :=
  ⟨[], ⟨by simp, .inr ⟨B, 0, #[], rfl, hb, h, Nat.le_refl _, by decide, by simp, by simp⟩⟩, fun _ _ => rfl⟩
theorem own_not_first {w : World} {v : Value} {W1 W2 : Obj} (hat : v.ownBlock = (Value.slice (some ⟨w.heap.size + 1, 0, none⟩) 0 0).ownBlock ∨ v.ownBlock = some ((w.alloc W1).alloc W2).heap.size) : v.ownBlock ≠ some w.heap.size := by
  intro e
  rcases hat with h | h
  · rw [e] at h; simp [Value.ownBlock] at h
  · rw [e] at h; simp at h; omega
theorem step_append2 {α : Type} {E : Lay α} {P : Program} {w : World} {ops : Array Oper} {o : Oper} {a : Act} {K : Act → World → Prop} {Q : Exit → Act → World → Prop} {X : Prop} (hgd : o.guard = none) (s x : Operand) (t : TypeId)
    (ho : o.op = .call { callee := .builtin .append, args := #[s, x], argTypes := #[t, t] })
    (base : Nat) (e : TypeId) (i : TypeInfo) (z : Value) (bytes : Nat) (ht : P.underlying t = some (.slice e)) (hi : P.info? e = some i) (hz : i.zero = some z)
    (hsize : i.size = E.size) (hby : i.bytes = bytes) (hzs : z.cells.size = E.size)
    (v : Value) (l : List α) (hs : a.eval s = v) (hown : E.Own w base e v l)
    (p : Option Addr) (m c : Nat) (k : List α) (hx : a.eval x = .slice p m c) (hpl : Pl p c) (hmc : m ≤ c) (hr : E.RowK w v.ownBlock p m k)
    (h63 : l.length + m ≤ maxLen) (hbytes : (l.length + m) * bytes ≤ 140737488355328) (hbase : base ≤ w.heap.size)
    (h : ∀ v' w', E.Own w' base e v' (l ++ k) → w.grownBy w' v.ownBlock → (v'.ownBlock = v.ownBlock ∨ v'.ownBlock = some w.heap.size) → K (a.put o.dst v') w') :
    if Region.wanted o (yielded ops a.tmps) = true then Oper.wp P o a w K Q else X := by
  rw [if_pos (by simp [Region.wanted, hgd])]
  obtain ⟨v', w', hrun, h2, h3, h4⟩ := Lay.run_append (E := E) (P := P) w t o.type e i z bytes base ht hi hz hsize hby hzs v l hown p m c k hpl hmc hr h63 hbytes hbase
  unfold Oper.wp execOp
  simp only [ho, resolve, invoke, builtin, Sem.run_bind, Sem.run_pure, Result.andThen_ok, List.map_toArray, List.map_cons, List.map_nil, hs, hx, hrun]
  exact h v' w' h2 h3 h4

set_option maxRecDepth 100000 in
set_option maxHeartbeats 8000000 in
theorem rof1_any (p q : Option Addr) (n c m d : Nat) (a b : List Span) (w : World) (hl : LSpan.Row w p n a) (hk : LSpan.Row w q m b) (hnc : n ≤ c) (hmd : m ≤ d) (hpl : Pl p c) (hql : Pl q d) (hn : n + m ≤ 100000) :
    Calls Try.prog 26 #[.slice p n c, .slice q m d, .int .i64 1] w (RetOf fOr a b w) := by
  obtain ⟨i0, hi0, hzi0, hzi1, hzi2⟩ := info_parts info_span
  have HA := Lib.hid hl
  have HBr := Lib.hid hk
  have HPL := Lib.hid hpl
  have HQL := Lib.hid hql
  have hn6 := Lib.hid hn
  have HLA : Hid (a.length = n) := Lib.hid hl.1
  have HLB : Hid (b.length = m) := Lib.hid hk.1
  have HX1 : Hid (Ext w ((w.alloc (.cells #[] 33)).alloc (.cells #[] 33))) := Lib.hid (by (unfold Ext; repeat (first | exact Below.refl _ _ | assumption | refine Below.drew ?_ | refine below_drewN ?_ _ | refine Below.alloc ?_ (by first | exact Nat.le_refl _ | (simp; done) | (simp; omega) | omega) _ | refine Below.setCell ?_ (by first | exact Nat.le_refl _ | (simp; done) | (simp; omega) | omega) _)))
  have HE0 : Hid (((w.alloc (.cells #[] 33)).alloc (.cells #[] 33)).heap[w.heap.size]? = some (.cells #[] 33 (0, 0))) := Lib.hid (heap_ext (heap_alloc_new w _) (Ext.alloc _ _))
  have HO0 : Hid (LSpan.Own ((w.alloc (.cells #[] 33)).alloc (.cells #[] 33)) w.heap.size 33 (.slice (some ⟨w.heap.size + 1, 0, none⟩) 0 0) []) := Lib.hid (by
    have := Lay.Own.made (E := LSpan) (w.alloc (.cells #[] 33)) #[] 0 w.heap.size 33 (by simp) (by decide) rfl
    simpa using this)
  have HOE : Hid (LSpan.Own (w.alloc (.cells #[] 33)) w.heap.size 33 (.slice (some ⟨w.heap.size, 0, none⟩) 0 0) []) := Lib.hid (Lay.Own.made (E := LSpan) w #[] 0 w.heap.size 33 (Nat.le_refl _) (by decide) rfl)
  clear hl hk hpl hql hn
  go_enter Try.func26, Try.ntmps26
  go_wp2_with (first | (at_builtin; refine Lay.wpList_append2 (E := LSpan) rfl (.tmp 15) (.tmp 16) 22 rfl w.heap.size 33 i0 (.agg #[.int .i64 0, .int .i64 0]) 16 Try.underlying22 hi0 hzi0 hzi1 hzi2 rfl _ ([]) rfl (HO0.out) (p) n c (a) rfl HPL.out hnc (plain_span.row (HA.out.ext HX1.out)) (by have := hn6.out; unfold maxLen; simp; omega) (by have := hn6.out; simp; omega) (by simp; omega) ?_; intro v1 wa hown1 hg1 hat1; have XA := HO0.out.below HX1.out (Nat.le_refl _) hg1; have HEA := Lib.hid ((hg1.block w.heap.size (by simp; omega) (fun e => by have e2 : some w.heap.size = some (w.heap.size + 1) := e; injection e2 with e2; omega)).trans HE0.out); rw [List.nil_append] at hown1; have HO1 := Lib.hid hown1; have HV1 := Lib.hid (own_not_first hat1); clear hown1 hat1) | (at_builtin; refine Lay.wpList_append (E := LSpan) rfl (.tmp 18) (.tmp 19) 22 rfl w.heap.size 33 i0 (.agg #[.int .i64 0, .int .i64 0]) 16 Try.underlying22 hi0 hzi0 hzi1 hzi2 rfl _ (a) rfl (HO1.out) (q) m d (b) rfl HQL.out hmd (plain_span.row (HBr.out.ext XA)) (by have := hn6.out; have := HLA.out; unfold maxLen; omega) (by have := hn6.out; have := HLA.out; omega) XA.size ?_; intro v2 wb hown2 hg2; have XB := HO1.out.below XA (Nat.le_refl _) hg2; have HEB := Lib.hid ((hg2.block w.heap.size (by have := XA.size; have := (Array.getElem?_eq_some_iff.1 HEA.out).1; omega) (fun e => HV1.out e.symm)).trans HEA.out); have HO2 := Lib.hid hown2; clear hown2 hg2))
  obtain ⟨N2, hN2⟩ : ∃ N2, (a ++ b).length = N2 := ⟨_, rfl⟩
  obtain ⟨p2, c2, rfl, hr2, h2c, hc2, hp2⟩ := HO2.out.opened
  have HNN : Hid (N2 = n + m) := Lib.hid (by rw [← hN2, List.length_append, HLA.out, HLB.out])
  rw [hN2] at hr2 h2c ⊢
  have HR2 := Lib.hid hr2
  clear hr2 hN2 hp2 HO2 HO1 HO0 HV1 HEA
  (with_reducible refine (rbounds_any p2 N2 c2 (a ++ b) wb HR2.out (by have := HNN.out; have := hn6.out; omega)).mono ?_)
  rintro e wc ⟨⟨v3, m3, rfl, ⟨p3, n3, c3, rfl, hr3, h3c, hc3, hp3⟩, HB3⟩, hxc⟩
  have HR3 := Lib.hid hr3
  have HP3 := Lib.hid hp3
  have XC := Ext.trans XB hxc
  have HEC := Lib.hid (heap_ext HEB.out hxc)
  have HN3 : Hid (n3 ≤ 300000) := Lib.hid (by rw [← hr3.1]; have h9 := HB3.out.len; have := hn6.out; rw [List.length_append] at h9; have := HLA.out; have := HLB.out; omega)
  clear hr3 hp3 hxc HR2 HEB XB
  go_wp2_with fail
  (with_reducible refine (into_any p3 n3 c3 m3 1099511627776 wc HR3.out h3c hc3 HP3.out (by decide) (by have := HN3.out; omega)).mono ?_)
  rintro e w3 ⟨⟨v4, mm, rfl, ⟨p4, n4, c4, rfl, hr4, h4c, hc4, hp4⟩, HI4⟩, hx3⟩
  have HM : Hid (AllOk a b mm) := Lib.hid (AllOk.of HB3.out HI4.out)
  have X3 := Ext.trans XC hx3
  have HE3 := Lib.hid (heap_ext HEC.out hx3)
  have HL4 : Hid (mm.length = n4) := Lib.hid hr4.1
  have HL5 : Hid (n4 ≤ 300002) := Lib.hid (by rw [← hr4.1]; have := HM.out.len; have := hn6.out; have := HLA.out; have := HLB.out; omega)
  have hn40 : 1 < n4 := by
    rw [← hr4.1]
    have h0 := HM.out.first
    obtain ⟨j, hj⟩ := List.mem_iff_getElem?.1 HM.out.top
    have h1 := (List.getElem?_eq_some_iff.1 hj).1
    by_cases e : j = 0
    · subst e; rw [h0] at hj; injection hj with hj; cases hj
    · omega
  have HR4 := Lib.hid hr4
  have HNE := Lib.hid (row_ne hr4 (by omega) HE3.out)
  have HSZ3 : Hid (w.heap.size < w3.heap.size) := Lib.hid (Array.getElem?_eq_some_iff.1 HE3.out).1
  have n463 := hr4.2.1
  clear hr4 hp4 hx3 HR3 HP3 HEC XC HB3 HI4
  go_wp2
  go_loopw [7, 10] (fun v i wr => RofR fOr a b mm w w3 w.heap.size n4 v i wr) (fun _ i _ => n4 - (intOf i).toNat)
  case atStart => exact ⟨0, 0, [], rfl, by omega, Tried.start rfl a b, HM.out.first, own_empty_at HE3.out (Nat.le_refl _), fun i hi => .inr hi, World.grownBy.refl _ _⟩
  case round =>
    obtain ⟨k, x, out, rfl, hk, hS⟩ := hrel
    have HS := Lib.hid hS
    clear hS
    have HRW := Lib.hid ((Lay.plain_int .i64).row_other HR4.out HS.out.gr HNE.out).ints.1
    obtain ⟨bb, off, rfl, hcl⟩ := HRW.out.2.2 (by omega)
    have gx := HS.out.at_
    have cx := hcl k hk
    have ex : at0 mm k = x := by simp [at0, List.getD_eq_getElem?_getD, gx]
    rw [ex] at cx
    have HXW : Hid ((Lit.int .i64 x).wf = true) := Lib.hid (HR4.out.wf x (List.mem_of_getElem? gx))
    have hlt0 : (0 : Int) ≤ (k : Int) := by omega
    have hltk : (k : Int) < (n4 : Int) := by omega
    have HEX : Hid (Ext w wr) := Lib.hid (Lay.grown_old X3 (fun q hq => by injection hq with hq; omega) HS.out.gr)
    clear ex gx
    by_cases hk1 : k + 1 < n4
    · obtain ⟨y, gy⟩ := get_of mm (k + 1) (by rw [HL4.out]; exact hk1)
      have cy := hcl (k + 1) hk1
      have ey : at0 mm (k + 1) = y := by simp [at0, List.getD_eq_getElem?_getD, gy]
      rw [ey] at cy
      have HGY := Lib.hid gy
      have HYW : Hid ((Lit.int .i64 y).wf = true) := Lib.hid (HR4.out.wf y (List.mem_of_getElem? gy))
      have hk1' : (k : Int) + 1 < (n4 : Int) := by omega
      have hk10 : (0 : Int) ≤ (k : Int) + 1 := by omega
      have HLE : Hid (out.length + 1 ≤ 1000000) := Lib.hid (by have := HS.out.tr.len; have := HL5.out; omega)
      clear ey gy hcl
      obtain ⟨bx, hbx⟩ : ∃ bx, hasB a x = bx := ⟨_, rfl⟩
      obtain ⟨by', hby⟩ : ∃ by', hasB b x = by' := ⟨_, rfl⟩
      have HBX := Lib.hid hbx
      have HBY := Lib.hid hby
      have HGB : Hid (gB fOr a b x = fOr bx by') := Lib.hid (by unfold gB; rw [hbx, hby])
      clear hbx hby
      go_wp2_with fail
      refine (rhas_any p n c a x wr (HA.out.ext HEX.out)).mono ?_
      rintro e w' ⟨rfl, rfl⟩
      rw [HBX.out]
      go_wp2_with fail
      refine (rhas_any q m d b x wr (HBr.out.ext HEX.out)).mono ?_
      rintro e w' ⟨rfl, rfl⟩
      rw [HBY.out]
      cases bx
      · cases by'
        · have HF0 : Hid (gB fOr a b x = false) := Lib.hid (by rw [HGB.out]; rfl)
          go_wp2
          go_roundw
          case rel => exact ⟨k + 1, y, out, by go_num, by omega, HS.out.not HM.out HGY.out HF0.out⟩
          case measure => simp [intOf]; omega
        · have HT0 : Hid (gB fOr a b x = true) := Lib.hid (by rw [HGB.out]; rfl)
          have HWK : Hid (IntKind.i64.wrap ((k : Int) + 1) = (k : Int) + 1) := Lib.hid (IntWalk.i64_in _ (by omega))
          have HTK : Hid (((k : Int) + 1).toNat = k + 1) := Lib.hid (by omega)
          have HM63 : Hid (out.length + 1 ≤ maxLen) := Lib.hid (by have := HLE.out; unfold maxLen; omega)
          have HMB : Hid ((out.length + 1) * 16 ≤ 140737488355328) := Lib.hid (by have := HLE.out; omega)
          have HWR : Hid (w.heap.size ≤ wr.heap.size) := Lib.hid HEX.out.size
          rcases list_snoc out with e | ⟨pre, ⟨g0, t0⟩, e⟩
          · subst e
            obtain ⟨pp, cp, hv, _⟩ := HS.out.own.opened
            simp only [List.length_nil] at hv
            subst hv
            go_wp2
            go_quiet (fail)
            go_wp2
            have hwk : IntKind.i64.wrap ((k : Int) + 1) = (k : Int) + 1 := HWK.out
            have htk : ((k : Int) + 1).toNat = k + 1 := HTK.out
            go_region_law (refine step_append2 (E := LSpan) rfl (.tmp 102) (.tmp 113) 22 rfl w.heap.size 33 i0 (.agg #[.int .i64 0, .int .i64 0]) 16 Try.underlying22 hi0 hzi0 hzi1 hzi2 rfl (.slice pp 0 cp) [] (by simp [Act.eval]) (HS.out.own.ext (by (unfold Ext; repeat (first | exact Below.refl _ _ | assumption | refine Below.drew ?_ | refine below_drewN ?_ _ | refine Below.alloc ?_ (by first | exact Nat.le_refl _ | (simp; done) | (simp; omega) | omega) _ | refine Below.setCell ?_ (by first | exact Nat.le_refl _ | (simp; done) | (simp; omega) | omega) _)))) (some ⟨wr.heap.size, 0, none⟩) 1 1 [(x, y)] (by simp [Act.eval]) (fun _ => ⟨_, _, rfl⟩) (Nat.le_refl _) (plain_span.lit (Ext.refl _) (Lay.All.single ⟨_, _, rfl, ⟨rfl, HXW.out⟩, ⟨rfl, HYW.out⟩⟩) (by simp) rfl (by decide)) HM63.out HMB.out (Nat.le_trans HWR.out (show wr.heap.size ≤ _ from by simp)) ?_; intro v2 w2 hown2 hg2 hat2; have HS2 := Lib.hid (RofS.new HS.out HM.out HGY.out HT0.out (by simp) (by (unfold Ext; repeat (first | exact Below.refl _ _ | assumption | refine Below.drew ?_ | refine below_drewN ?_ _ | refine Below.alloc ?_ (by first | exact Nat.le_refl _ | (simp; done) | (simp; omega) | omega) _ | refine Below.setCell ?_ (by first | exact Nat.le_refl _ | (simp; done) | (simp; omega) | omega) _))) hown2 hg2 hat2); clear hown2 hg2 hat2)
            all_goals
              clear hwk htk
              go_wp2
              go_roundw
              case rel => exact ⟨k + 1, y, [(x, y)], by go_num, by omega, HS2.out⟩
              case measure => simp [intOf]; omega
          · subst e
            obtain ⟨gb, cp, hv, hgb⟩ := HS.out.own.full (by simp)
            obtain ⟨n0, hn0⟩ : ∃ n0, pre.length = n0 := ⟨_, rfl⟩
            rw [show (pre ++ [(g0, t0)]).length = n0 + 1 by simp [hn0]] at hv
            subst hv
            have ct : wr.cell? ⟨gb, n0 * 2 + 1, none⟩ = some (.int .i64 t0) := by
              obtain ⟨pp, nn, cc, e, hr, _⟩ := HS.out.own.sl
              simp only [Value.slice.injEq] at e
              obtain ⟨rfl, rfl, rfl⟩ := e
              obtain ⟨b1, o1, hb1, _, h2, _⟩ := span_at hr (j := n0) (x := (g0, t0)) (by simp [← hn0])
              simp only [Option.some.injEq, Addr.mk.injEq, and_true] at hb1
              obtain ⟨rfl, rfl⟩ := hb1
              simpa using h2
            have ft : wr.frozen? ⟨gb, n0 * 2 + 1, none⟩ = false := HS.out.own.frozenAt (by simp [hn0]) _
            have HN0 := Lib.hid hn0
            have hn64 : n0 + 1 ≤ 1000000 := by have := HLE.out; simp at this; omega
            clear hn0
            by_cases he : x = t0
            · subst he
              have hed : (x == x) = true := by simp
              go_wp2
              go_quiet (fail)
              go_wp2
              go_roundw
              case rel => exact ⟨k + 1, y, pre ++ [(g0, y)], by go_num, by omega, by
                have h9 := (HS.out.ext (Ext.drewN (Ext.refl wr) nq)).more HM.out HGY.out HT0.out (by rw [HN0.out]) HYW.out
                rw [HN0.out] at h9
                exact h9⟩
              case measure => simp [intOf]; omega
            · have hed : (t0 == x) = false := by simp; exact fun e => he e.symm
              have HAP := Lib.hid (HS.out.tr.apart (fun e => he e.symm))
              clear he
              go_wp2
              go_quiet (fail)
              go_wp2
              have hwk : IntKind.i64.wrap ((k : Int) + 1) = (k : Int) + 1 := HWK.out
              have htk : ((k : Int) + 1).toNat = k + 1 := HTK.out
              go_region_law (refine step_append2 (E := LSpan) rfl (.tmp 102) (.tmp 113) 22 rfl w.heap.size 33 i0 (.agg #[.int .i64 0, .int .i64 0]) 16 Try.underlying22 hi0 hzi0 hzi1 hzi2 rfl (.slice (some ⟨gb, 0, none⟩) (n0 + 1) cp) (pre ++ [(g0, t0)]) (by simp [Act.eval]) (HS.out.own.ext (by (unfold Ext; repeat (first | exact Below.refl _ _ | assumption | refine Below.drew ?_ | refine below_drewN ?_ _ | refine Below.alloc ?_ (by first | exact Nat.le_refl _ | (simp; done) | (simp; omega) | omega) _ | refine Below.setCell ?_ (by first | exact Nat.le_refl _ | (simp; done) | (simp; omega) | omega) _)))) (some ⟨wr.heap.size, 0, none⟩) 1 1 [(x, y)] (by simp [Act.eval]) (fun _ => ⟨_, _, rfl⟩) (Nat.le_refl _) (plain_span.lit (Ext.refl _) (Lay.All.single ⟨_, _, rfl, ⟨rfl, HXW.out⟩, ⟨rfl, HYW.out⟩⟩) (by simp) rfl (by decide)) HM63.out HMB.out (Nat.le_trans HWR.out (show wr.heap.size ≤ _ from by simp)) ?_; intro v2 w2 hown2 hg2 hat2; have HS2 := Lib.hid (RofS.new HS.out HM.out HGY.out HT0.out HAP.out (by (unfold Ext; repeat (first | exact Below.refl _ _ | assumption | refine Below.drew ?_ | refine below_drewN ?_ _ | refine Below.alloc ?_ (by first | exact Nat.le_refl _ | (simp; done) | (simp; omega) | omega) _ | refine Below.setCell ?_ (by first | exact Nat.le_refl _ | (simp; done) | (simp; omega) | omega) _))) hown2 hg2 hat2); clear hown2 hg2 hat2)
              all_goals
                clear hwk htk
                go_wp2
                go_roundw
                case rel => exact ⟨k + 1, y, (pre ++ [(g0, t0)]) ++ [(x, y)], by go_num, by omega, HS2.out⟩
                case measure => simp [intOf]; omega
      · cases by'
        · have HT0 : Hid (gB fOr a b x = true) := Lib.hid (by rw [HGB.out]; rfl)
          have HWK : Hid (IntKind.i64.wrap ((k : Int) + 1) = (k : Int) + 1) := Lib.hid (IntWalk.i64_in _ (by omega))
          have HTK : Hid (((k : Int) + 1).toNat = k + 1) := Lib.hid (by omega)
          have HM63 : Hid (out.length + 1 ≤ maxLen) := Lib.hid (by have := HLE.out; unfold maxLen; omega)
          have HMB : Hid ((out.length + 1) * 16 ≤ 140737488355328) := Lib.hid (by have := HLE.out; omega)
          have HWR : Hid (w.heap.size ≤ wr.heap.size) := Lib.hid HEX.out.size
          rcases list_snoc out with e | ⟨pre, ⟨g0, t0⟩, e⟩
          · subst e
            obtain ⟨pp, cp, hv, _⟩ := HS.out.own.opened
            simp only [List.length_nil] at hv
            subst hv
            go_wp2
            go_quiet (fail)
            go_wp2
            have hwk : IntKind.i64.wrap ((k : Int) + 1) = (k : Int) + 1 := HWK.out
            have htk : ((k : Int) + 1).toNat = k + 1 := HTK.out
            go_region_law (refine step_append2 (E := LSpan) rfl (.tmp 102) (.tmp 113) 22 rfl w.heap.size 33 i0 (.agg #[.int .i64 0, .int .i64 0]) 16 Try.underlying22 hi0 hzi0 hzi1 hzi2 rfl (.slice pp 0 cp) [] (by simp [Act.eval]) (HS.out.own.ext (by (unfold Ext; repeat (first | exact Below.refl _ _ | assumption | refine Below.drew ?_ | refine below_drewN ?_ _ | refine Below.alloc ?_ (by first | exact Nat.le_refl _ | (simp; done) | (simp; omega) | omega) _ | refine Below.setCell ?_ (by first | exact Nat.le_refl _ | (simp; done) | (simp; omega) | omega) _)))) (some ⟨wr.heap.size, 0, none⟩) 1 1 [(x, y)] (by simp [Act.eval]) (fun _ => ⟨_, _, rfl⟩) (Nat.le_refl _) (plain_span.lit (Ext.refl _) (Lay.All.single ⟨_, _, rfl, ⟨rfl, HXW.out⟩, ⟨rfl, HYW.out⟩⟩) (by simp) rfl (by decide)) HM63.out HMB.out (Nat.le_trans HWR.out (show wr.heap.size ≤ _ from by simp)) ?_; intro v2 w2 hown2 hg2 hat2; have HS2 := Lib.hid (RofS.new HS.out HM.out HGY.out HT0.out (by simp) (by (unfold Ext; repeat (first | exact Below.refl _ _ | assumption | refine Below.drew ?_ | refine below_drewN ?_ _ | refine Below.alloc ?_ (by first | exact Nat.le_refl _ | (simp; done) | (simp; omega) | omega) _ | refine Below.setCell ?_ (by first | exact Nat.le_refl _ | (simp; done) | (simp; omega) | omega) _))) hown2 hg2 hat2); clear hown2 hg2 hat2)
            all_goals
              clear hwk htk
              go_wp2
              go_roundw
              case rel => exact ⟨k + 1, y, [(x, y)], by go_num, by omega, HS2.out⟩
              case measure => simp [intOf]; omega
          · subst e
            obtain ⟨gb, cp, hv, hgb⟩ := HS.out.own.full (by simp)
            obtain ⟨n0, hn0⟩ : ∃ n0, pre.length = n0 := ⟨_, rfl⟩
            rw [show (pre ++ [(g0, t0)]).length = n0 + 1 by simp [hn0]] at hv
            subst hv
            have ct : wr.cell? ⟨gb, n0 * 2 + 1, none⟩ = some (.int .i64 t0) := by
              obtain ⟨pp, nn, cc, e, hr, _⟩ := HS.out.own.sl
              simp only [Value.slice.injEq] at e
              obtain ⟨rfl, rfl, rfl⟩ := e
              obtain ⟨b1, o1, hb1, _, h2, _⟩ := span_at hr (j := n0) (x := (g0, t0)) (by simp [← hn0])
              simp only [Option.some.injEq, Addr.mk.injEq, and_true] at hb1
              obtain ⟨rfl, rfl⟩ := hb1
              simpa using h2
            have ft : wr.frozen? ⟨gb, n0 * 2 + 1, none⟩ = false := HS.out.own.frozenAt (by simp [hn0]) _
            have HN0 := Lib.hid hn0
            have hn64 : n0 + 1 ≤ 1000000 := by have := HLE.out; simp at this; omega
            clear hn0
            by_cases he : x = t0
            · subst he
              have hed : (x == x) = true := by simp
              go_wp2
              go_quiet (fail)
              go_wp2
              go_roundw
              case rel => exact ⟨k + 1, y, pre ++ [(g0, y)], by go_num, by omega, by
                have h9 := (HS.out.ext (Ext.drewN (Ext.refl wr) nq)).more HM.out HGY.out HT0.out (by rw [HN0.out]) HYW.out
                rw [HN0.out] at h9
                exact h9⟩
              case measure => simp [intOf]; omega
            · have hed : (t0 == x) = false := by simp; exact fun e => he e.symm
              have HAP := Lib.hid (HS.out.tr.apart (fun e => he e.symm))
              clear he
              go_wp2
              go_quiet (fail)
              go_wp2
              have hwk : IntKind.i64.wrap ((k : Int) + 1) = (k : Int) + 1 := HWK.out
              have htk : ((k : Int) + 1).toNat = k + 1 := HTK.out
              go_region_law (refine step_append2 (E := LSpan) rfl (.tmp 102) (.tmp 113) 22 rfl w.heap.size 33 i0 (.agg #[.int .i64 0, .int .i64 0]) 16 Try.underlying22 hi0 hzi0 hzi1 hzi2 rfl (.slice (some ⟨gb, 0, none⟩) (n0 + 1) cp) (pre ++ [(g0, t0)]) (by simp [Act.eval]) (HS.out.own.ext (by (unfold Ext; repeat (first | exact Below.refl _ _ | assumption | refine Below.drew ?_ | refine below_drewN ?_ _ | refine Below.alloc ?_ (by first | exact Nat.le_refl _ | (simp; done) | (simp; omega) | omega) _ | refine Below.setCell ?_ (by first | exact Nat.le_refl _ | (simp; done) | (simp; omega) | omega) _)))) (some ⟨wr.heap.size, 0, none⟩) 1 1 [(x, y)] (by simp [Act.eval]) (fun _ => ⟨_, _, rfl⟩) (Nat.le_refl _) (plain_span.lit (Ext.refl _) (Lay.All.single ⟨_, _, rfl, ⟨rfl, HXW.out⟩, ⟨rfl, HYW.out⟩⟩) (by simp) rfl (by decide)) HM63.out HMB.out (Nat.le_trans HWR.out (show wr.heap.size ≤ _ from by simp)) ?_; intro v2 w2 hown2 hg2 hat2; have HS2 := Lib.hid (RofS.new HS.out HM.out HGY.out HT0.out HAP.out (by (unfold Ext; repeat (first | exact Below.refl _ _ | assumption | refine Below.drew ?_ | refine below_drewN ?_ _ | refine Below.alloc ?_ (by first | exact Nat.le_refl _ | (simp; done) | (simp; omega) | omega) _ | refine Below.setCell ?_ (by first | exact Nat.le_refl _ | (simp; done) | (simp; omega) | omega) _))) hown2 hg2 hat2); clear hown2 hg2 hat2)
              all_goals
                clear hwk htk
                go_wp2
                go_roundw
                case rel => exact ⟨k + 1, y, (pre ++ [(g0, t0)]) ++ [(x, y)], by go_num, by omega, HS2.out⟩
                case measure => simp [intOf]; omega
        · have HT0 : Hid (gB fOr a b x = true) := Lib.hid (by rw [HGB.out]; rfl)
          have HWK : Hid (IntKind.i64.wrap ((k : Int) + 1) = (k : Int) + 1) := Lib.hid (IntWalk.i64_in _ (by omega))
          have HTK : Hid (((k : Int) + 1).toNat = k + 1) := Lib.hid (by omega)
          have HM63 : Hid (out.length + 1 ≤ maxLen) := Lib.hid (by have := HLE.out; unfold maxLen; omega)
          have HMB : Hid ((out.length + 1) * 16 ≤ 140737488355328) := Lib.hid (by have := HLE.out; omega)
          have HWR : Hid (w.heap.size ≤ wr.heap.size) := Lib.hid HEX.out.size
          rcases list_snoc out with e | ⟨pre, ⟨g0, t0⟩, e⟩
          · subst e
            obtain ⟨pp, cp, hv, _⟩ := HS.out.own.opened
            simp only [List.length_nil] at hv
            subst hv
            go_wp2
            go_quiet (fail)
            go_wp2
            have hwk : IntKind.i64.wrap ((k : Int) + 1) = (k : Int) + 1 := HWK.out
            have htk : ((k : Int) + 1).toNat = k + 1 := HTK.out
            go_region_law (refine step_append2 (E := LSpan) rfl (.tmp 102) (.tmp 113) 22 rfl w.heap.size 33 i0 (.agg #[.int .i64 0, .int .i64 0]) 16 Try.underlying22 hi0 hzi0 hzi1 hzi2 rfl (.slice pp 0 cp) [] (by simp [Act.eval]) (HS.out.own.ext (by (unfold Ext; repeat (first | exact Below.refl _ _ | assumption | refine Below.drew ?_ | refine below_drewN ?_ _ | refine Below.alloc ?_ (by first | exact Nat.le_refl _ | (simp; done) | (simp; omega) | omega) _ | refine Below.setCell ?_ (by first | exact Nat.le_refl _ | (simp; done) | (simp; omega) | omega) _)))) (some ⟨wr.heap.size, 0, none⟩) 1 1 [(x, y)] (by simp [Act.eval]) (fun _ => ⟨_, _, rfl⟩) (Nat.le_refl _) (plain_span.lit (Ext.refl _) (Lay.All.single ⟨_, _, rfl, ⟨rfl, HXW.out⟩, ⟨rfl, HYW.out⟩⟩) (by simp) rfl (by decide)) HM63.out HMB.out (Nat.le_trans HWR.out (show wr.heap.size ≤ _ from by simp)) ?_; intro v2 w2 hown2 hg2 hat2; have HS2 := Lib.hid (RofS.new HS.out HM.out HGY.out HT0.out (by simp) (by (unfold Ext; repeat (first | exact Below.refl _ _ | assumption | refine Below.drew ?_ | refine below_drewN ?_ _ | refine Below.alloc ?_ (by first | exact Nat.le_refl _ | (simp; done) | (simp; omega) | omega) _ | refine Below.setCell ?_ (by first | exact Nat.le_refl _ | (simp; done) | (simp; omega) | omega) _))) hown2 hg2 hat2); clear hown2 hg2 hat2)
            all_goals
              clear hwk htk
              go_wp2
              go_roundw
              case rel => exact ⟨k + 1, y, [(x, y)], by go_num, by omega, HS2.out⟩
              case measure => simp [intOf]; omega
          · subst e
            obtain ⟨gb, cp, hv, hgb⟩ := HS.out.own.full (by simp)
            obtain ⟨n0, hn0⟩ : ∃ n0, pre.length = n0 := ⟨_, rfl⟩
            rw [show (pre ++ [(g0, t0)]).length = n0 + 1 by simp [hn0]] at hv
            subst hv
            have ct : wr.cell? ⟨gb, n0 * 2 + 1, none⟩ = some (.int .i64 t0) := by
              obtain ⟨pp, nn, cc, e, hr, _⟩ := HS.out.own.sl
              simp only [Value.slice.injEq] at e
              obtain ⟨rfl, rfl, rfl⟩ := e
              obtain ⟨b1, o1, hb1, _, h2, _⟩ := span_at hr (j := n0) (x := (g0, t0)) (by simp [← hn0])
              simp only [Option.some.injEq, Addr.mk.injEq, and_true] at hb1
              obtain ⟨rfl, rfl⟩ := hb1
              simpa using h2
            have ft : wr.frozen? ⟨gb, n0 * 2 + 1, none⟩ = false := HS.out.own.frozenAt (by simp [hn0]) _
            have HN0 := Lib.hid hn0
            have hn64 : n0 + 1 ≤ 1000000 := by have := HLE.out; simp at this; omega
            clear hn0
            by_cases he : x = t0
            · subst he
              have hed : (x == x) = true := by simp
              go_wp2
              go_quiet (fail)
              go_wp2
              go_roundw
              case rel => exact ⟨k + 1, y, pre ++ [(g0, y)], by go_num, by omega, by
                have h9 := (HS.out.ext (Ext.drewN (Ext.refl wr) nq)).more HM.out HGY.out HT0.out (by rw [HN0.out]) HYW.out
                rw [HN0.out] at h9
                exact h9⟩
              case measure => simp [intOf]; omega
            · have hed : (t0 == x) = false := by simp; exact fun e => he e.symm
              have HAP := Lib.hid (HS.out.tr.apart (fun e => he e.symm))
              clear he
              go_wp2
              go_quiet (fail)
              go_wp2
              have hwk : IntKind.i64.wrap ((k : Int) + 1) = (k : Int) + 1 := HWK.out
              have htk : ((k : Int) + 1).toNat = k + 1 := HTK.out
              go_region_law (refine step_append2 (E := LSpan) rfl (.tmp 102) (.tmp 113) 22 rfl w.heap.size 33 i0 (.agg #[.int .i64 0, .int .i64 0]) 16 Try.underlying22 hi0 hzi0 hzi1 hzi2 rfl (.slice (some ⟨gb, 0, none⟩) (n0 + 1) cp) (pre ++ [(g0, t0)]) (by simp [Act.eval]) (HS.out.own.ext (by (unfold Ext; repeat (first | exact Below.refl _ _ | assumption | refine Below.drew ?_ | refine below_drewN ?_ _ | refine Below.alloc ?_ (by first | exact Nat.le_refl _ | (simp; done) | (simp; omega) | omega) _ | refine Below.setCell ?_ (by first | exact Nat.le_refl _ | (simp; done) | (simp; omega) | omega) _)))) (some ⟨wr.heap.size, 0, none⟩) 1 1 [(x, y)] (by simp [Act.eval]) (fun _ => ⟨_, _, rfl⟩) (Nat.le_refl _) (plain_span.lit (Ext.refl _) (Lay.All.single ⟨_, _, rfl, ⟨rfl, HXW.out⟩, ⟨rfl, HYW.out⟩⟩) (by simp) rfl (by decide)) HM63.out HMB.out (Nat.le_trans HWR.out (show wr.heap.size ≤ _ from by simp)) ?_; intro v2 w2 hown2 hg2 hat2; have HS2 := Lib.hid (RofS.new HS.out HM.out HGY.out HT0.out HAP.out (by (unfold Ext; repeat (first | exact Below.refl _ _ | assumption | refine Below.drew ?_ | refine below_drewN ?_ _ | refine Below.alloc ?_ (by first | exact Nat.le_refl _ | (simp; done) | (simp; omega) | omega) _ | refine Below.setCell ?_ (by first | exact Nat.le_refl _ | (simp; done) | (simp; omega) | omega) _))) hown2 hg2 hat2); clear hown2 hg2 hat2)
              all_goals
                clear hwk htk
                go_wp2
                go_roundw
                case rel => exact ⟨k + 1, y, (pre ++ [(g0, t0)]) ++ [(x, y)], by go_num, by omega, HS2.out⟩
                case measure => simp [intOf]; omega
    · obtain rfl : k + 1 = n4 := by omega
      have HX9 : Hid (x = 1099511627776) := Lib.hid (HM.out.last HS.out.at_ (by rw [HL4.out]; omega))
      have HI : Hid (IsOf fOr a b out) := Lib.hid (by have h9 := HS.out.tr; rw [HX9.out] at h9; exact h9.done rfl HM.out (by rw [HL4.out]; omega))
      have HO : Hid (LSpan.Own wr w.heap.size 33 u7 out) := Lib.hid HS.out.own
      go_wp2
      go_ret
      exact ⟨⟨_, rfl, by have := HO.out; rw [HI.out.is.1] at this; exact this⟩, Lib.hid HI.out.is.2, HEX.out⟩

end Go.Proofs.Ytdpaagingfeoeaa.Sp
