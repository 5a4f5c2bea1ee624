/- Written bytes: the live questions. -/
import Derived.Test.YtcajmgdenhegjaaWrX
import Derived.Test.YtcajmgdenhegjaaWrV
import Derived.Test.YtcajmgdenhegjaaWrD
namespace Go.Proofs.Ytcajmgdenhegjaa.Wr
open Go.RowKit Go.Proofs.Ytcajmgdenhegjaa
set_option linter.unusedVariables false

theorem all_u8 (w : World) : ∀ (l : List Int), (∀ x ∈ l, (Lit.int .u8 x).wf = true) → (Lay.int .u8).All w (l.map (Value.int .u8)) l
  | [], _ => rfl
  | x :: l, h => ⟨[.int .u8 x], l.map (Value.int .u8), rfl, ⟨rfl, h x (by simp)⟩, all_u8 w l (fun y hy => h y (by simp [hy]))⟩
theorem u8_lit (w : World) (cs : Array Value) (l : List Int) (n : Nat) (h : cs.toList = l.map (Value.int .u8)) (hw : ∀ x ∈ l, (Lit.int .u8 x).wf = true) (hn : l.length = n) (hb : n ≤ 1000) : (Lay.int .u8).Sl (w.alloc (.cells cs 5)) (.slice (some ⟨w.heap.size, 0, none⟩) n n) l :=
  (plain_u8.own_lit w cs 5 w.heap.size n l (Nat.le_refl _) (by rw [h]; exact all_u8 w l hw) hn (by unfold maxLen; omega)).sl
theorem sl_form {α : Type} {E : Lay α} {w : World} {v : Value} {l : List α} (h : E.Sl w v l) : ∃ p n c, v = .slice p n c ∧ n = l.length := by
  obtain ⟨p, n, c, rfl, h1, _⟩ := h
  exact ⟨p, n, c, rfl, h1.1.symm⟩
theorem sl_row {α : Type} {E : Lay α} {w : World} {p : Option Addr} {n c : Nat} {l : List α} (h : E.Sl w (.slice p n c) l) : E.Row w p n l := (sl_parts h).1
def q1 : Pc := ⟨5, 2, [1, 2]⟩
def q2 : Pc := ⟨5, 3, [9, 9]⟩
def q12 : Pc := ⟨5, 2, [1, 9, 9]⟩
def q3 : Pc := ⟨5, 8, [7]⟩
def q0 : Pc := ⟨0, 8, [7]⟩
theorem right_q1 : q1.Right := ⟨by decide, by decide, by decide, by decide⟩
theorem right_q2 : q2.Right := ⟨by decide, by decide, by decide, by decide⟩
theorem right_q12 : q12.Right := ⟨by decide, by decide, by decide, by decide⟩
theorem right_q3 : q3.Right := ⟨by decide, by decide, by decide, by decide⟩
theorem both_q : both q1 q2 = q12 := by decide
theorem put1 {l : List Pc} (h : PutS [] ⟨5, 2, [1, 2]⟩ l) : l = [q1] := h.uniq (m' := [q1]) (PutS.new (l := []) right_q1 (by simp))
theorem put2 {l : List Pc} (h : PutS [q1] ⟨5, 3, [9, 9]⟩ l) : l = [q12] := by
  have := PutS.meet (l := [q1]) (x := q2) (pre := []) (p := q1) (post := []) right_q2 ⟨rfl, rfl, by simp⟩ (by decide)
  rw [both_q] at this
  exact h.uniq this
theorem put3 {l : List Pc} (h : PutS [q12] ⟨5, 8, [7]⟩ l) : l = [q12, q3] := by
  have := PutS.far (l := [q12]) (x := q3) (pre := []) (p := q12) (post := []) right_q3 ⟨rfl, rfl, by simp⟩ (by decide)
  exact h.uniq this
theorem put4 {l : List Pc} (h : PutS [q12, q3] ⟨0, 8, [7]⟩ l) : l = [q12, q3] := h.uniq (PutS.not (by intro h; exact absurd h.1 (by decide)))
theorem allr1 : AllR [q1] := by intro x hx; simp at hx; subst hx; exact right_q1
theorem allr2 : AllR [q12] := by intro x hx; simp at hx; subst hx; exact right_q12
theorem allr3 : AllR [q12, q3] := by
  intro x hx
  simp only [List.mem_cons, List.not_mem_nil, or_false] at hx
  rcases hx with rfl | rfl
  · exact right_q12
  · exact right_q3
theorem see_q : seeL [q12, q3] 5 [4, 4, 4] = [4, 4, 1, 9, 9, 0, 0, 0, 7] := by decide
def f1 : Sf := ⟨5, 4, [0, 0, 1, 9, 9]⟩
def f2 : Sf := ⟨5, 9, [0, 0, 1, 9, 9]⟩
theorem with_q1 : withS [] ⟨5, 4, layP (findS [] 5).d q12⟩ = [f1] := by decide
theorem with_q2 : withS [f1] ⟨5, max (findS [f1] 5).e 9, (findS [f1] 5).d⟩ = [f2] := by decide
theorem rsame_t {p q : Option Addr} {n c m d : Nat} {l k : List Pc} {w : World} (hl : LPc.Row w p n l) (hk : LPc.Row w q m k) (h : l = k) : Calls Try.prog 14 #[.slice p n c, .slice q m d] w fun e w' => e = .returned (.bool true) ∧ Ext w w' := by
  have := rsame_any p q n c m d l k w hl hk
  rwa [decide_eq_true h] at this
theorem rsames_t {p q : Option Addr} {n c m d : Nat} {l k : List Sf} {w : World} (hl : LSf.Row w p n l) (hk : LSf.Row w q m k) (h : l = k) : Calls Try.prog 23 #[.slice p n c, .slice q m d] w fun e w' => e = .returned (.bool true) ∧ Ext w w' := by
  have := rsames_any p q n c m d l k w hl hk
  rwa [decide_eq_true h] at this
theorem rbytes_t {p q : Option Addr} {n c m d : Nat} {l k : List Int} {w : World} (hl : (Lay.int .u8).Row w p n l) (hk : (Lay.int .u8).Row w q m k) (h : l = k) : Calls Try.prog 17 #[.slice p n c, .slice q m d] w fun e w' => e = .returned (.bool true) ∧ Ext w w' := by
  have := rbytes_any l k p q n c m d w hl hk
  rwa [decide_eq_true h] at this
theorem sfs_one {w w1 : World} {a f : Int} {p : Option Addr} {n c : Nat} {d : List Int} (t : TypeId)
    (hx : TriC w1 [.int .i64 a, .int .i64 f, .slice p n c] a f d p n c) (h : Ext (w.alloc (.cells #[.int .i64 a, .int .i64 f, .slice p n c] t)) w1) :
    LSf.Row w1 (some ⟨w.heap.size, 0, none⟩) 1 [⟨a, f, d⟩] :=
  Lay.Row.lit h ⟨[.int .i64 a, .int .i64 f, .slice p n c], [], rfl, hx.tri, rfl⟩ rfl rfl (by omega)
theorem sorted1 (x : Sf) : SortedS [x] := List.pairwise_singleton _ _
set_option maxRecDepth 100000 in
set_option maxHeartbeats 16000000 in
theorem head_v (w : World) : Calls Try.prog 9 #[] w fun e w' => e = .returned (.bool true) ∧ Ext w w' := by
  have hz : Ext w w := Ext.refl _
  go_enter Try.func9, Try.ntmps9
  go_wp2_with fail
  refine (put_v none 0 0 [] 5 2 _ [1, 2] _ (Lay.Sl.nil _ _) (by intro x hx; simp at hx) (by decide) (u8_lit _ #[.int .u8 1, .int .u8 2] [1, 2] 2 rfl (by decide) rfl (by decide)) (by decide) (by decide) (by decide)).mono ?_
  rintro e w1 ⟨⟨v, l', rfl, hs, hp⟩, hx9⟩
  have hx8 : Ext w w1 := Ext.trans (Ext.alloc _ _) hx9
  replace hz := Ext.trans hz hx8
  clear hx8 hx9
  obtain rfl := put1 hp
  obtain ⟨pA, nA, cA, rfl, hn9⟩ := sl_form hs
  have HNA : Hid (nA ≤ 10) := Lib.hid (by rw [hn9]; decide)
  have HA := Lib.hid hs
  clear hs hp hn9
  go_wp2_with fail
  refine (put_v pA nA cA [q1] 5 3 _ [9, 9] _ (HA.out.ext (Ext.alloc _ _)) allr1 (by have := HNA.out; omega) (u8_lit _ #[.int .u8 9, .int .u8 9] [9, 9] 2 rfl (by decide) rfl (by decide)) (by decide) (by decide) (by decide)).mono ?_
  rintro e w2 ⟨⟨v, l', rfl, hs, hp⟩, hx9⟩
  have hx8 : Ext w1 w2 := Ext.trans (Ext.alloc _ _) hx9
  replace HA := Lib.hid (HA.out.ext hx8)
  replace hz := Ext.trans hz hx8
  clear hx8 hx9
  obtain rfl := put2 hp
  obtain ⟨pB, nB, cB, rfl, hn9⟩ := sl_form hs
  have HNB : Hid (nB ≤ 10) := Lib.hid (by rw [hn9]; decide)
  have HB := Lib.hid hs
  clear hs hp hn9
  go_wp2_with fail
  refine (put_v pB nB cB [q12] 5 8 _ [7] _ (HB.out.ext (Ext.alloc _ _)) allr2 (by have := HNB.out; omega) (u8_lit _ #[.int .u8 7] [7] 1 rfl (by decide) rfl (by decide)) (by decide) (by decide) (by decide)).mono ?_
  rintro e w3 ⟨⟨v, l', rfl, hs, hp⟩, hx9⟩
  have hx8 : Ext w2 w3 := Ext.trans (Ext.alloc _ _) hx9
  replace HA := Lib.hid (HA.out.ext hx8)
  replace HB := Lib.hid (HB.out.ext hx8)
  replace hz := Ext.trans hz hx8
  clear hx8 hx9
  obtain rfl := put3 hp
  obtain ⟨pC, nC, cC, rfl, hn9⟩ := sl_form hs
  have HNC : Hid (nC ≤ 10) := Lib.hid (by rw [hn9]; decide)
  have HC := Lib.hid hs
  clear hs hp hn9
  go_wp2_with fail
  refine (put_v pC nC cC [q12, q3] 0 8 _ [7] _ (HC.out.ext (Ext.alloc _ _)) allr3 (by have := HNC.out; omega) (u8_lit _ #[.int .u8 7] [7] 1 rfl (by decide) rfl (by decide)) (by decide) (by decide) (by decide)).mono ?_
  rintro e w4 ⟨⟨v, l', rfl, hs, hp⟩, hx9⟩
  have hx8 : Ext w3 w4 := Ext.trans (Ext.alloc _ _) hx9
  replace HA := Lib.hid (HA.out.ext hx8)
  replace HB := Lib.hid (HB.out.ext hx8)
  replace HC := Lib.hid (HC.out.ext hx8)
  replace hz := Ext.trans hz hx8
  clear hx8 hx9
  obtain rfl := put4 hp
  obtain ⟨pD, nD, cD, rfl, hn9⟩ := sl_form hs
  have HND : Hid (nD ≤ 10) := Lib.hid (by rw [hn9]; decide)
  have HD := Lib.hid hs
  clear hs hp hn9
  go_wp2_with fail
  refine (csee_v _ [4, 4, 4] pC nC cC [q12, q3] 5 _ (u8_lit _ #[.int .u8 4, .int .u8 4, .int .u8 4] [4, 4, 4] 3 rfl (by decide) rfl (by decide)) (sl_row (HC.out.ext (Ext.alloc _ _))) allr3 (by have := HNC.out; omega) (by decide)).mono ?_
  rintro e w5 ⟨⟨v, rfl, hs⟩, hx9⟩
  have hx8 : Ext w4 w5 := Ext.trans (Ext.alloc _ _) hx9
  replace HA := Lib.hid (HA.out.ext hx8)
  replace HB := Lib.hid (HB.out.ext hx8)
  replace HC := Lib.hid (HC.out.ext hx8)
  replace HD := Lib.hid (HD.out.ext hx8)
  replace hz := Ext.trans hz hx8
  clear hx8 hx9
  rw [see_q] at hs
  obtain ⟨pS, nS, cS, rfl, hn9⟩ := sl_form hs.sl
  have HS := Lib.hid hs.sl
  clear hs hn9
  go_wp2_with fail
  refine (next_v pC nC cC [q12, q3] _ HC.out).mono ?_
  rintro e w6 ⟨hr, hx9⟩
  have hx8 : Ext w5 w6 := hx9
  replace HA := Lib.hid (HA.out.ext hx8)
  replace HB := Lib.hid (HB.out.ext hx8)
  replace HC := Lib.hid (HC.out.ext hx8)
  replace HD := Lib.hid (HD.out.ext hx8)
  replace HS := Lib.hid (HS.out.ext hx8)
  replace hz := Ext.trans hz hx8
  clear hx8 hx9
  obtain ⟨px, nx, cx, pl, nl, cl, rfl, htx, hsl⟩ := hr.2 _ _ rfl
  have hnl : nl = 1 := (sl_row hsl).1.symm
  have HTX : Hid (TriC w6 [.int .i64 5, .int .i64 2, .slice px nx cx] 5 2 [1, 9, 9] px nx cx) := Lib.hid htx
  have HSL := Lib.hid hsl
  subst hnl
  clear hr htx hsl
  unfold q12
  simp only
  have HBX := Lib.hid (heap_alloc_new w6 (.cells #[.int .i64 5, .int .i64 2, .slice px nx cx] 30))
  go_wp2_with fail
  refine (next_v none 0 0 [] _ (Lay.Sl.nil _ _)).mono ?_
  rintro e w7 ⟨hr, hx9⟩
  have hx8 : Ext w6 w7 := Ext.trans (Ext.alloc _ _) hx9
  replace HA := Lib.hid (HA.out.ext hx8)
  replace HB := Lib.hid (HB.out.ext hx8)
  replace HC := Lib.hid (HC.out.ext hx8)
  replace HD := Lib.hid (HD.out.ext hx8)
  replace HS := Lib.hid (HS.out.ext hx8)
  replace HTX := Lib.hid (HTX.out.ext hx8)
  replace HSL := Lib.hid (HSL.out.ext hx8)
  replace HBX := Lib.hid (heap_ext HBX.out hx9)
  replace hz := Ext.trans hz hx8
  clear hx8 hx9
  obtain rfl := hr.1 rfl
  clear hr
  go_wp2_with fail
  have hc := lay_v _ [] [1, 2] 4095 _ 2 2 _ (Lay.Sl.nil _ _) (u8_lit (w7.alloc (.cells #[.int .i64 0, .int .i64 0, .slice none 0 0] 30)) #[.int .u8 1, .int .u8 2] [1, 2] 2 rfl (by decide) rfl (by decide)) (by decide) (by decide)
  simp only [World.size_alloc] at hc
  refine hc.mono ?_
  clear hc
  rintro e w8 ⟨⟨v, c9, rfl, hr1, hr2, hr3⟩, hx9⟩
  have hx8 : Ext w7 w8 := Ext.trans (Ext.trans (Ext.alloc _ _) (Ext.alloc _ _)) hx9
  replace HA := Lib.hid (HA.out.ext hx8)
  replace HB := Lib.hid (HB.out.ext hx8)
  replace HC := Lib.hid (HC.out.ext hx8)
  replace HD := Lib.hid (HD.out.ext hx8)
  replace HS := Lib.hid (HS.out.ext hx8)
  replace HTX := Lib.hid (HTX.out.ext hx8)
  replace HSL := Lib.hid (HSL.out.ext hx8)
  replace HBX := Lib.hid (heap_ext HBX.out hx8)
  replace hz := Ext.trans hz hx8
  clear hx8 hx9
  obtain ⟨rfl, rfl⟩ := hr2 (by decide) (by decide) (by decide)
  clear hr1 hr2 hr3
  go_wp2_with fail
  refine (lay_v _ [] [] (-1) none 0 0 _ (Lay.Sl.nil _ _) (Lay.Sl.nil _ _) (by decide) (by decide)).mono ?_
  rintro e w9 ⟨⟨v, c9, rfl, hr1, hr2, hr3⟩, hx9⟩
  have hx8 : Ext w8 w9 := hx9
  replace HA := Lib.hid (HA.out.ext hx8)
  replace HB := Lib.hid (HB.out.ext hx8)
  replace HC := Lib.hid (HC.out.ext hx8)
  replace HD := Lib.hid (HD.out.ext hx8)
  replace HS := Lib.hid (HS.out.ext hx8)
  replace HTX := Lib.hid (HTX.out.ext hx8)
  replace HSL := Lib.hid (HSL.out.ext hx8)
  replace HBX := Lib.hid (heap_ext HBX.out hx8)
  replace hz := Ext.trans hz hx8
  clear hx8 hx9
  obtain ⟨rfl, rfl⟩ := hr1 (by decide)
  clear hr1 hr2 hr3
  go_wp2_with fail
  have hc := lay_v _ [1] [2] 3 _ 1 1 _ ((u8_lit w9 #[.int .u8 1] [1] 1 rfl (by decide) rfl (by decide)).ext (Ext.alloc _ (.cells #[.int .u8 2] 5))) (u8_lit (w9.alloc (.cells #[.int .u8 1] 5)) #[.int .u8 2] [2] 1 rfl (by decide) rfl (by decide)) (by decide) (by decide)
  simp only [World.size_alloc] at hc
  refine hc.mono ?_
  clear hc
  rintro e w10 ⟨⟨v, c9, rfl, hr1, hr2, hr3⟩, hx9⟩
  have hx8 : Ext w9 w10 := Ext.trans (Ext.trans (Ext.alloc _ _) (Ext.alloc _ _)) hx9
  replace HA := Lib.hid (HA.out.ext hx8)
  replace HB := Lib.hid (HB.out.ext hx8)
  replace HC := Lib.hid (HC.out.ext hx8)
  replace HD := Lib.hid (HD.out.ext hx8)
  replace HS := Lib.hid (HS.out.ext hx8)
  replace HTX := Lib.hid (HTX.out.ext hx8)
  replace HSL := Lib.hid (HSL.out.ext hx8)
  replace HBX := Lib.hid (heap_ext HBX.out hx8)
  replace hz := Ext.trans hz hx8
  clear hx8 hx9
  obtain ⟨rfl, hg⟩ := hr3 (by decide) (fun _ => by decide)
  have eg : rlaidL [1] (Int.toNat 3) [2] = [1, 0, 0, 2] := by decide
  rw [eg] at hg
  obtain ⟨pG, nG, cG, rfl, hn9⟩ := sl_form hg.sl
  have HG := Lib.hid hg.sl
  clear hr1 hr2 hr3 hg eg hn9
  have b0 : w10.cell? ⟨w6.heap.size, 0, none⟩ = some (.int .i64 5) := cell_of_row _ _ 0 _ _ _ HBX.out
  have b1 : w10.cell? ⟨w6.heap.size, 1, none⟩ = some (.int .i64 2) := cell_of_row _ _ 1 _ _ _ HBX.out
  have b2 : w10.cell? ⟨w6.heap.size, 2, none⟩ = some (.slice px nx cx) := cell_of_row _ _ 2 _ _ _ HBX.out
  go_wp2_with fail
  have hc := take_v (.slice none 0 0) [] ⟨5, 2, [1, 9, 9]⟩ px nx cx 4 w10 (Lay.Sl.nil _ _) (by unfold SortedS; exact List.Pairwise.nil) (by decide) (by simp) HTX.out right_q12.ok (by decide)
  simp only at hc
  refine hc.mono ?_
  clear hc
  rintro e w11 ⟨hr, hx9⟩
  have hx8 : Ext w10 w11 := hx9
  replace HA := Lib.hid (HA.out.ext hx8)
  replace HB := Lib.hid (HB.out.ext hx8)
  replace HC := Lib.hid (HC.out.ext hx8)
  replace HD := Lib.hid (HD.out.ext hx8)
  replace HS := Lib.hid (HS.out.ext hx8)
  replace HTX := Lib.hid (HTX.out.ext hx8)
  replace HSL := Lib.hid (HSL.out.ext hx8)
  replace HG := Lib.hid (HG.out.ext hx8)
  replace HBX := Lib.hid (heap_ext HBX.out hx8)
  replace hz := Ext.trans hz hx8
  clear hx8 hx9
  clear b0 b1 b2
  obtain ⟨v, rfl, hs⟩ := hr.2 (by decide)
  have eg : withS [] ⟨5, 4, layP (findS [] 5).d ⟨5, 2, [1, 9, 9]⟩⟩ = [f1] := with_q1
  simp only [eg] at hs
  obtain ⟨pI, nI, cI, rfl, hn9⟩ := sl_form hs.sl
  have HI := Lib.hid hs.sl
  clear hr hs eg hn9
  have b0 : w11.cell? ⟨w6.heap.size, 0, none⟩ = some (.int .i64 5) := cell_of_row _ _ 0 _ _ _ HBX.out
  have b1 : w11.cell? ⟨w6.heap.size, 1, none⟩ = some (.int .i64 2) := cell_of_row _ _ 1 _ _ _ HBX.out
  have b2 : w11.cell? ⟨w6.heap.size, 2, none⟩ = some (.slice px nx cx) := cell_of_row _ _ 2 _ _ _ HBX.out
  go_wp2_with fail
  have hc := take_v _ [f1] ⟨5, 2, [1, 9, 9]⟩ px nx cx 3 w11 HI.out (sorted1 _) (by decide) (by simp [f1]) HTX.out right_q12.ok (by decide)
  simp only at hc
  refine hc.mono ?_
  clear hc
  rintro e w12 ⟨hr, hx9⟩
  have hx8 : Ext w11 w12 := hx9
  replace HA := Lib.hid (HA.out.ext hx8)
  replace HB := Lib.hid (HB.out.ext hx8)
  replace HC := Lib.hid (HC.out.ext hx8)
  replace HD := Lib.hid (HD.out.ext hx8)
  replace HS := Lib.hid (HS.out.ext hx8)
  replace HTX := Lib.hid (HTX.out.ext hx8)
  replace HSL := Lib.hid (HSL.out.ext hx8)
  replace HG := Lib.hid (HG.out.ext hx8)
  replace HI := Lib.hid (HI.out.ext hx8)
  replace HBX := Lib.hid (heap_ext HBX.out hx8)
  replace hz := Ext.trans hz hx8
  clear hx8 hx9
  clear b0 b1 b2
  obtain rfl := hr.1 (by decide)
  clear hr
  go_wp2_with fail
  refine (raise_v _ [f1] 5 9 _ HI.out (sorted1 _) (by decide) (by decide) (by decide)).mono ?_
  rintro e w13 ⟨⟨v, rfl, hs⟩, hx9⟩
  have hx8 : Ext w12 w13 := hx9
  replace HA := Lib.hid (HA.out.ext hx8)
  replace HB := Lib.hid (HB.out.ext hx8)
  replace HC := Lib.hid (HC.out.ext hx8)
  replace HD := Lib.hid (HD.out.ext hx8)
  replace HS := Lib.hid (HS.out.ext hx8)
  replace HTX := Lib.hid (HTX.out.ext hx8)
  replace HSL := Lib.hid (HSL.out.ext hx8)
  replace HG := Lib.hid (HG.out.ext hx8)
  replace HI := Lib.hid (HI.out.ext hx8)
  replace HBX := Lib.hid (heap_ext HBX.out hx8)
  replace hz := Ext.trans hz hx8
  clear hx8 hx9
  rw [with_q2] at hs
  obtain ⟨pN, nN, cN, rfl, hn9⟩ := sl_form hs.sl
  have HNN := Lib.hid hs.sl
  clear hs hn9
  have b0 : w13.cell? ⟨w6.heap.size, 0, none⟩ = some (.int .i64 5) := cell_of_row _ _ 0 _ _ _ HBX.out
  have b1 : w13.cell? ⟨w6.heap.size, 1, none⟩ = some (.int .i64 2) := cell_of_row _ _ 1 _ _ _ HBX.out
  have b2 : w13.cell? ⟨w6.heap.size, 2, none⟩ = some (.slice px nx cx) := cell_of_row _ _ 2 _ _ _ HBX.out
  go_wp2_with fail
  have hc := take_v _ [f2] ⟨5, 2, [1, 9, 9]⟩ px nx cx 8 w13 HNN.out (sorted1 _) (by decide) (by simp [f2]) HTX.out right_q12.ok (by decide)
  simp only at hc
  refine hc.mono ?_
  clear hc
  rintro e w14 ⟨hr, hx9⟩
  have hx8 : Ext w13 w14 := hx9
  replace HA := Lib.hid (HA.out.ext hx8)
  replace HB := Lib.hid (HB.out.ext hx8)
  replace HC := Lib.hid (HC.out.ext hx8)
  replace HD := Lib.hid (HD.out.ext hx8)
  replace HS := Lib.hid (HS.out.ext hx8)
  replace HTX := Lib.hid (HTX.out.ext hx8)
  replace HSL := Lib.hid (HSL.out.ext hx8)
  replace HG := Lib.hid (HG.out.ext hx8)
  replace HI := Lib.hid (HI.out.ext hx8)
  replace HNN := Lib.hid (HNN.out.ext hx8)
  replace HBX := Lib.hid (heap_ext HBX.out hx8)
  replace hz := Ext.trans hz hx8
  clear hx8 hx9
  clear b0 b1 b2
  obtain rfl := hr.1 (by decide)
  clear hr
  have hlA : (Lay.int .u8).Sl ((w14.alloc (.cells #[.int .u8 1, .int .u8 9, .int .u8 9] 5)).alloc (.cells #[.int .u8 7] 5)) (.slice (some ⟨w14.heap.size, 0, none⟩) 3 3) [1, 9, 9] := (u8_lit w14 #[.int .u8 1, .int .u8 9, .int .u8 9] [1, 9, 9] 3 rfl (by decide) rfl (by decide)).ext (Ext.alloc _ _)
  have hlB : (Lay.int .u8).Sl ((w14.alloc (.cells #[.int .u8 1, .int .u8 9, .int .u8 9] 5)).alloc (.cells #[.int .u8 7] 5)) (.slice (some ⟨w14.heap.size + 1, 0, none⟩) 1 1) [7] := by have h7 := (u8_lit (w14.alloc (.cells #[.int .u8 1, .int .u8 9, .int .u8 9] 5)) #[.int .u8 7] [7] 1 rfl (by decide) rfl (by decide)); simp only [World.size_alloc] at h7; exact h7
  have hlC : LPc.Row (((w14.alloc (.cells #[.int .u8 1, .int .u8 9, .int .u8 9] 5)).alloc (.cells #[.int .u8 7] 5)).alloc (.cells #[.int .i64 5, .int .i64 2, .slice (some ⟨w14.heap.size, 0, none⟩) 3 3, .int .i64 5, .int .i64 8, .slice (some ⟨w14.heap.size + 1, 0, none⟩) 1 1] 30)) (some ⟨w14.heap.size + 1 + 1, 0, none⟩) 2 [⟨5, 2, [1, 9, 9]⟩, ⟨5, 8, [7]⟩] := by have h7 := pcs_two 30 (tri_mk (hlA.ext (Ext.alloc _ (.cells #[.int .i64 5, .int .i64 2, .slice (some ⟨w14.heap.size, 0, none⟩) 3 3, .int .i64 5, .int .i64 8, .slice (some ⟨w14.heap.size + 1, 0, none⟩) 1 1] 30))) (by decide : (Lit.int .i64 5).wf = true) (by decide : (Lit.int .i64 2).wf = true)) (tri_mk (hlB.ext (Ext.alloc _ (.cells #[.int .i64 5, .int .i64 2, .slice (some ⟨w14.heap.size, 0, none⟩) 3 3, .int .i64 5, .int .i64 8, .slice (some ⟨w14.heap.size + 1, 0, none⟩) 1 1] 30))) (by decide : (Lit.int .i64 5).wf = true) (by decide : (Lit.int .i64 8).wf = true)) (Ext.refl _); simp only [World.size_alloc] at h7; exact h7
  have hxl : Ext w14 (((w14.alloc (.cells #[.int .u8 1, .int .u8 9, .int .u8 9] 5)).alloc (.cells #[.int .u8 7] 5)).alloc (.cells #[.int .i64 5, .int .i64 2, .slice (some ⟨w14.heap.size, 0, none⟩) 3 3, .int .i64 5, .int .i64 8, .slice (some ⟨w14.heap.size + 1, 0, none⟩) 1 1] 30)) := Ext.trans (Ext.alloc _ _) (Ext.trans (Ext.alloc _ _) (Ext.alloc _ _))
  have HLC := Lib.hid hlC
  have HXL := Lib.hid hxl
  clear hlA hlB hlC hxl
  go_wp2_with fail
  refine (rsame_t (sl_row (HC.out.ext HXL.out)) HLC.out rfl).mono ?_
  rintro e w15 ⟨rfl, hx9⟩
  have hx8 : Ext w14 w15 := Ext.trans (Ext.trans (Ext.trans (Ext.alloc _ _) (Ext.alloc _ _)) (Ext.alloc _ _)) hx9
  replace HA := Lib.hid (HA.out.ext hx8)
  replace HB := Lib.hid (HB.out.ext hx8)
  replace HC := Lib.hid (HC.out.ext hx8)
  replace HD := Lib.hid (HD.out.ext hx8)
  replace HS := Lib.hid (HS.out.ext hx8)
  replace HTX := Lib.hid (HTX.out.ext hx8)
  replace HSL := Lib.hid (HSL.out.ext hx8)
  replace HG := Lib.hid (HG.out.ext hx8)
  replace HI := Lib.hid (HI.out.ext hx8)
  replace HNN := Lib.hid (HNN.out.ext hx8)
  replace HBX := Lib.hid (heap_ext HBX.out hx8)
  replace hz := Ext.trans hz hx8
  clear hx8 hx9
  go_wp2_with fail
  refine (rsame_t (sl_row HD.out) (sl_row HC.out) rfl).mono ?_
  rintro e w16 ⟨rfl, hx9⟩
  have hx8 : Ext w15 w16 := hx9
  replace HA := Lib.hid (HA.out.ext hx8)
  replace HB := Lib.hid (HB.out.ext hx8)
  replace HC := Lib.hid (HC.out.ext hx8)
  replace HD := Lib.hid (HD.out.ext hx8)
  replace HS := Lib.hid (HS.out.ext hx8)
  replace HTX := Lib.hid (HTX.out.ext hx8)
  replace HSL := Lib.hid (HSL.out.ext hx8)
  replace HG := Lib.hid (HG.out.ext hx8)
  replace HI := Lib.hid (HI.out.ext hx8)
  replace HNN := Lib.hid (HNN.out.ext hx8)
  replace HBX := Lib.hid (heap_ext HBX.out hx8)
  replace hz := Ext.trans hz hx8
  clear hx8 hx9
  go_wp2_with fail
  refine (rbytes_t (sl_row (HS.out.ext (Ext.alloc _ _))) (sl_row (u8_lit _ #[.int .u8 4, .int .u8 4, .int .u8 1, .int .u8 9, .int .u8 9, .int .u8 0, .int .u8 0, .int .u8 0, .int .u8 7] [4, 4, 1, 9, 9, 0, 0, 0, 7] 9 rfl (by decide) rfl (by decide))) rfl).mono ?_
  rintro e w17 ⟨rfl, hx9⟩
  have hx8 : Ext w16 w17 := Ext.trans (Ext.alloc _ _) hx9
  replace HA := Lib.hid (HA.out.ext hx8)
  replace HB := Lib.hid (HB.out.ext hx8)
  replace HC := Lib.hid (HC.out.ext hx8)
  replace HD := Lib.hid (HD.out.ext hx8)
  replace HS := Lib.hid (HS.out.ext hx8)
  replace HTX := Lib.hid (HTX.out.ext hx8)
  replace HSL := Lib.hid (HSL.out.ext hx8)
  replace HG := Lib.hid (HG.out.ext hx8)
  replace HI := Lib.hid (HI.out.ext hx8)
  replace HNN := Lib.hid (HNN.out.ext hx8)
  replace HBX := Lib.hid (heap_ext HBX.out hx8)
  replace hz := Ext.trans hz hx8
  clear hx8 hx9
  go_wp2_with fail
  refine (rbytes_t (sl_row (HG.out.ext (Ext.alloc _ _))) (sl_row (u8_lit _ #[.int .u8 1, .int .u8 0, .int .u8 0, .int .u8 2] [1, 0, 0, 2] 4 rfl (by decide) rfl (by decide))) rfl).mono ?_
  rintro e w18 ⟨rfl, hx9⟩
  have hx8 : Ext w17 w18 := Ext.trans (Ext.alloc _ _) hx9
  replace HA := Lib.hid (HA.out.ext hx8)
  replace HB := Lib.hid (HB.out.ext hx8)
  replace HC := Lib.hid (HC.out.ext hx8)
  replace HD := Lib.hid (HD.out.ext hx8)
  replace HS := Lib.hid (HS.out.ext hx8)
  replace HTX := Lib.hid (HTX.out.ext hx8)
  replace HSL := Lib.hid (HSL.out.ext hx8)
  replace HG := Lib.hid (HG.out.ext hx8)
  replace HI := Lib.hid (HI.out.ext hx8)
  replace HNN := Lib.hid (HNN.out.ext hx8)
  replace HBX := Lib.hid (heap_ext HBX.out hx8)
  replace hz := Ext.trans hz hx8
  clear hx8 hx9
  go_wp2_with fail
  refine (rsames_t (sl_row HI.out) (sl_row HI.out) rfl).mono ?_
  rintro e w19 ⟨rfl, hx9⟩
  have hx8 : Ext w18 w19 := hx9
  replace HA := Lib.hid (HA.out.ext hx8)
  replace HB := Lib.hid (HB.out.ext hx8)
  replace HC := Lib.hid (HC.out.ext hx8)
  replace HD := Lib.hid (HD.out.ext hx8)
  replace HS := Lib.hid (HS.out.ext hx8)
  replace HTX := Lib.hid (HTX.out.ext hx8)
  replace HSL := Lib.hid (HSL.out.ext hx8)
  replace HG := Lib.hid (HG.out.ext hx8)
  replace HI := Lib.hid (HI.out.ext hx8)
  replace HNN := Lib.hid (HNN.out.ext hx8)
  replace HBX := Lib.hid (heap_ext HBX.out hx8)
  replace hz := Ext.trans hz hx8
  clear hx8 hx9
  have hlA : (Lay.int .u8).Sl ((w19.alloc (.cells #[.int .u8 0, .int .u8 0, .int .u8 1, .int .u8 9, .int .u8 9] 5)).alloc (.cells #[.int .i64 5, .int .i64 4, .slice (some ⟨w19.heap.size, 0, none⟩) 5 5] 51)) (.slice (some ⟨w19.heap.size, 0, none⟩) 5 5) [0, 0, 1, 9, 9] := (u8_lit w19 #[.int .u8 0, .int .u8 0, .int .u8 1, .int .u8 9, .int .u8 9] [0, 0, 1, 9, 9] 5 rfl (by decide) rfl (by decide)).ext (Ext.alloc _ _)
  have hlC : LSf.Row ((w19.alloc (.cells #[.int .u8 0, .int .u8 0, .int .u8 1, .int .u8 9, .int .u8 9] 5)).alloc (.cells #[.int .i64 5, .int .i64 4, .slice (some ⟨w19.heap.size, 0, none⟩) 5 5] 51)) (some ⟨w19.heap.size + 1, 0, none⟩) 1 [⟨5, 4, [0, 0, 1, 9, 9]⟩] := by have h7 := sfs_one 51 (tri_mk hlA (by decide : (Lit.int .i64 5).wf = true) (by decide : (Lit.int .i64 4).wf = true)) (Ext.refl _); simp only [World.size_alloc] at h7; exact h7
  have hxl : Ext w19 ((w19.alloc (.cells #[.int .u8 0, .int .u8 0, .int .u8 1, .int .u8 9, .int .u8 9] 5)).alloc (.cells #[.int .i64 5, .int .i64 4, .slice (some ⟨w19.heap.size, 0, none⟩) 5 5] 51)) := Ext.trans (Ext.alloc _ _) (Ext.alloc _ _)
  have HLD := Lib.hid hlC
  have HXM := Lib.hid hxl
  clear hlA hlC hxl
  go_wp2_with fail
  refine (rsames_t (sl_row (HI.out.ext HXM.out)) HLD.out rfl).mono ?_
  rintro e w20 ⟨rfl, hx9⟩
  have hx8 : Ext w19 w20 := Ext.trans (Ext.trans (Ext.alloc _ _) (Ext.alloc _ _)) hx9
  replace HA := Lib.hid (HA.out.ext hx8)
  replace HB := Lib.hid (HB.out.ext hx8)
  replace HC := Lib.hid (HC.out.ext hx8)
  replace HD := Lib.hid (HD.out.ext hx8)
  replace HS := Lib.hid (HS.out.ext hx8)
  replace HTX := Lib.hid (HTX.out.ext hx8)
  replace HSL := Lib.hid (HSL.out.ext hx8)
  replace HG := Lib.hid (HG.out.ext hx8)
  replace HI := Lib.hid (HI.out.ext hx8)
  replace HNN := Lib.hid (HNN.out.ext hx8)
  replace HBX := Lib.hid (heap_ext HBX.out hx8)
  replace hz := Ext.trans hz hx8
  clear hx8 hx9
  clear HLD HXM
  have hlA : (Lay.int .u8).Sl ((w20.alloc (.cells #[.int .u8 0, .int .u8 0, .int .u8 1, .int .u8 9, .int .u8 9] 5)).alloc (.cells #[.int .i64 5, .int .i64 9, .slice (some ⟨w20.heap.size, 0, none⟩) 5 5] 51)) (.slice (some ⟨w20.heap.size, 0, none⟩) 5 5) [0, 0, 1, 9, 9] := (u8_lit w20 #[.int .u8 0, .int .u8 0, .int .u8 1, .int .u8 9, .int .u8 9] [0, 0, 1, 9, 9] 5 rfl (by decide) rfl (by decide)).ext (Ext.alloc _ _)
  have hlC : LSf.Row ((w20.alloc (.cells #[.int .u8 0, .int .u8 0, .int .u8 1, .int .u8 9, .int .u8 9] 5)).alloc (.cells #[.int .i64 5, .int .i64 9, .slice (some ⟨w20.heap.size, 0, none⟩) 5 5] 51)) (some ⟨w20.heap.size + 1, 0, none⟩) 1 [⟨5, 9, [0, 0, 1, 9, 9]⟩] := by have h7 := sfs_one 51 (tri_mk hlA (by decide : (Lit.int .i64 5).wf = true) (by decide : (Lit.int .i64 9).wf = true)) (Ext.refl _); simp only [World.size_alloc] at h7; exact h7
  have hxl : Ext w20 ((w20.alloc (.cells #[.int .u8 0, .int .u8 0, .int .u8 1, .int .u8 9, .int .u8 9] 5)).alloc (.cells #[.int .i64 5, .int .i64 9, .slice (some ⟨w20.heap.size, 0, none⟩) 5 5] 51)) := Ext.trans (Ext.alloc _ _) (Ext.alloc _ _)
  have HLD := Lib.hid hlC
  have HXM := Lib.hid hxl
  clear hlA hlC hxl
  go_wp2_with fail
  refine (rsames_t (sl_row (HNN.out.ext HXM.out)) HLD.out rfl).mono ?_
  rintro e w21 ⟨rfl, hx9⟩
  have hx8 : Ext w20 w21 := Ext.trans (Ext.trans (Ext.alloc _ _) (Ext.alloc _ _)) hx9
  replace HA := Lib.hid (HA.out.ext hx8)
  replace HB := Lib.hid (HB.out.ext hx8)
  replace HC := Lib.hid (HC.out.ext hx8)
  replace HD := Lib.hid (HD.out.ext hx8)
  replace HS := Lib.hid (HS.out.ext hx8)
  replace HTX := Lib.hid (HTX.out.ext hx8)
  replace HSL := Lib.hid (HSL.out.ext hx8)
  replace HG := Lib.hid (HG.out.ext hx8)
  replace HI := Lib.hid (HI.out.ext hx8)
  replace HNN := Lib.hid (HNN.out.ext hx8)
  replace HBX := Lib.hid (heap_ext HBX.out hx8)
  replace hz := Ext.trans hz hx8
  clear hx8 hx9
  clear HLD HXM
  go_wp2
  go_ret
  exact ⟨rfl, hz⟩
end Go.Proofs.Ytcajmgdenhegjaa.Wr
