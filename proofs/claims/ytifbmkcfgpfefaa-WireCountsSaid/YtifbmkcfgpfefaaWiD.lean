/- Messages: the places of those for which a function says yes, as an iterator. -/
import Derived.Test.YtifbmkcfgpfefaaWiC
import Derived.Test.YtifbmkcfgpfefaaRound
import Derived.Shelf.Abstract
import Derived.Shelf.RegionOpen
import Derived.OwnWalkIn
import Derived.TacticsInMore
import Derived.LoopNIn
import Derived.LoopIn
import Derived.RangeFuncBox
namespace Go.Proofs.Ytifbmkcfgpfefaa.Wi
open Go.RowKit Go.Proofs.Ytifbmkcfgpfefaa Go.Shelf
set_option linter.unusedVariables false
attribute [local go_sem] Oper.semAt_some

/-- all blocks below n as they were, but one -/
structure KeepX (X n : Nat) (A B : World) : Prop where
  os : B.os = A.os
  tape : B.tape = A.tape
  output : B.output = A.output
  size : A.heap.size ≤ B.heap.size
  block : ∀ k, k < n → k ≠ X → B.heap[k]? = A.heap[k]?
theorem KeepX.refl (X n : Nat) (A : World) : KeepX X n A A := ⟨rfl, rfl, rfl, Nat.le_refl _, fun _ _ _ => rfl⟩
theorem KeepX.trans {X n : Nat} {A B C : World} (h : KeepX X n A B) (k : KeepX X n B C) : KeepX X n A C :=
  ⟨k.os.trans h.os, k.tape.trans h.tape, k.output.trans h.output, Nat.le_trans h.size k.size, fun i h1 h2 => (k.block i h1 h2).trans (h.block i h1 h2)⟩
theorem KeepX.of {X n : Nat} {A B : World} (h : Below n A B) : KeepX X n A B := ⟨h.os, h.tape, h.output, h.size, fun i h1 _ => h.block i h1⟩
theorem KeepX.grown {X n : Nat} {A B : World} {row : Option Nat} (h : A.grownBy B row) (hn : n ≤ A.heap.size) (hr : ∀ k, row = some k → n ≤ k ∨ k = X) : KeepX X n A B :=
  ⟨h.os, h.tape, h.output, h.size, fun i h1 h2 => h.block i (by omega) (fun e => by rcases hr i e.symm with h3 | h3 <;> omega)⟩
theorem KeepX.cell {X n : Nat} {A B : World} (h : KeepX X n A B) {p : Addr} (hp : p.block < n) (hx : p.block ≠ X) : B.cell? p = A.cell? p := World.cell?_of_block (w := A) (h.block p.block hp hx)
theorem KeepX.ext {X n : Nat} {w0 A B : World} (h : KeepX X n A B) (hw : Ext w0 A) (hn : w0.heap.size ≤ n) (hx : w0.heap.size ≤ X) : Ext w0 B :=
  ⟨h.os.trans hw.os, h.tape.trans hw.tape, h.output.trans hw.output, Nat.le_trans hw.size h.size, fun k hk => (h.block k (by omega) (by omega)).trans (hw.block k hk)⟩
theorem keepX_b {X n : Nat} {w : World} (hn : n ≤ w.heap.size) (W : World) (l : Nat) (o o' : Obj) (hl : w.heap.size ≤ l) (h : W.heap[l]? = some o) (_ : o.isCells = false) (_ : o.isWalk = false) : KeepX X n W (W.putObj l o') :=
  KeepX.grown (grownBy_putObj' W l o') (by have := (Array.getElem?_eq_some_iff.1 h).1; omega) (fun k e => by cases e; exact .inl (by omega))
/-- one that comes -/
structure Pl (l : List Mg) where
  k : Nat
  x : Mg
  at_ : l[k]? = some x
def encK {l : List Mg} (y : Pl l) : Array Value := #[.int .i64 (y.k : Int)]
structure IsPl (f : Mg → Bool) (l m : List Mg) (ys : List (Pl l)) : Prop where
  ks : ys.map Pl.k = placesN f m
  xs : ys.map Pl.x = m.filter f
theorem filter_step {l : List Mg} {j : Nat} {x : Mg} (h : l[j]? = some x) (f : Mg → Bool) : (l.take (j + 1)).filter f = (l.take j).filter f ++ if f x then [x] else [] := by
  rw [List.take_add_one, h]
  show (l.take j ++ [x]).filter f = _
  rw [List.filter_append]
  by_cases hb : f x = true <;> simp [hb]
theorem IsPl.yes {f : Mg → Bool} {l : List Mg} {j : Nat} {ys : List (Pl l)} (h : IsPl f l (l.take j) ys) (x : Mg) (hx : l[j]? = some x) (hf : f x = true) : IsPl f l (l.take (j + 1)) (ys ++ [⟨j, x, hx⟩]) :=
  ⟨by rw [List.map_append, h.ks, places_step hx, if_pos hf]; rfl, by rw [List.map_append, h.xs, filter_step hx, if_pos hf]; rfl⟩
theorem IsPl.no {f : Mg → Bool} {l : List Mg} {j : Nat} {ys : List (Pl l)} (h : IsPl f l (l.take j) ys) (x : Mg) (hx : l[j]? = some x) (hf : f x = false) : IsPl f l (l.take (j + 1)) ys :=
  ⟨by rw [h.ks, places_step hx, hf]; simp, by rw [h.xs, filter_step hx, hf]; simp⟩
theorem IsPl.len {f : Mg → Bool} {l m : List Mg} {ys : List (Pl l)} (h : IsPl f l m ys) : ys.length ≤ m.length := by
  have h1 := congrArg List.length h.ks
  rw [List.length_map] at h1
  rw [h1]; exact places_len _ _
theorem places_v (p : Option Addr) (n c : Nat) (g : FuncId) (lb : Array Value) (w : World) : Calls Try.prog 31 #[.slice p n c, .func (.func g) #[] lb] w fun e w' => e = .returned (.func (.func 39) #[] #[.pointer (some ⟨w.heap.size, 0, none⟩), .pointer (some ⟨w.heap.size + 1, 0, none⟩)]) ∧ w' = (w.alloc (.cells #[.slice p n c] 22)).alloc (.cells #[.func (.func g) #[] lb] 57) := by
  go_enter Try.func31, Try.ntmps31
  go_wp2
  go_ret
  exact ⟨rfl, rfl⟩

set_option maxRecDepth 100000 in
set_option maxHeartbeats 4000000 in
theorem pl_in (w0 w : World) (p : Option Addr) (n c : Nat) (l : List Mg) (hl : LMg.Row w0 p n l) (hnb : n ≤ 1000) (f : Mg → Bool) (g : FuncId) (lb : Array Value) (N l1 B1 B2 Bs B X : Nat) (hb1 : B1 ≤ Bs ∧ B1 ≠ X) (hb2 : B2 ≤ Bs ∧ B2 ≠ X) (hX : w0.heap.size ≤ X) (hB0 : w0.heap.size ≤ Bs + 1) (hw : Ext w0 w) (hBw : Bs < w.heap.size)
    (h1 : w.cell? ⟨B1, 0, none⟩ = some (.slice p n c)) (h2 : w.cell? ⟨B2, 0, none⟩ = some (.func (.func g) #[] lb)) (eg : ∀ args w, (callFunc g args).run Try.prog w = .ok (.enter g args) w)
    (hf : ∀ (x : Mg) (p1 : Option Addr) (n1 c1 : Nat) (q1 : Option Addr) (m1 d1 : Nat) (W' : World), KeepX X (Bs + 1) w W' → Calls Try.prog g (#[.agg #[.int .i64 x.a, .int .i64 x.b, .int .i64 x.k, .slice p1 n1 c1, .slice q1 m1 d1]] ++ lb) W' fun e w' => e = .returned (.bool (f x)) ∧ Ext W' w')
    (J Jx : List (Pl l) → World → Prop) (hJ : AbidesFrom B J)
    (hY : ∀ pre x W, J pre W → pre.length < l.length → YieldAt Fence.wide (N - 1) Try.prog l1 (encK x) W fun e W' =>
      (e = .returned (.bool true) ∧ J (pre ++ [x]) W' ∧ KeepX X (Bs + 1) W W') ∨ (e = .returned (.bool false) ∧ Jx (pre ++ [x]) W'))
    (W : World) (hW : KeepX X (Bs + 1) w W) (h0 : J [] W) :
    CallsIn Fence.wide N Try.prog 39 #[.func (.yield l1) #[] #[], .pointer (some ⟨B1, 0, none⟩), .pointer (some ⟨B2, 0, none⟩)] W fun e W' => (∃ v, e = .returned v) ∧
      ((∃ ys, IsPl f l l ys ∧ J ys W') ∨ (∃ pre, True ∧ Jx pre W')) := by
  have HL := Lib.hid hl
  have HF := Lib.hid hf
  have HJ := Lib.hid hJ
  have HW := Lib.hid hw
  have hn := hl.2.1
  have cB1 := (hW.cell (p := ⟨B1, 0, none⟩) (by show B1 < Bs + 1; omega) hb1.2).trans h1
  have hbox : ∀ W', KeepX X (Bs + 1) w W' → W'.cell? ⟨B2, 0, none⟩ = some (.func (.func g) #[] lb) := fun W' h => (h.cell (p := ⟨B2, 0, none⟩) (by show B2 < Bs + 1; omega) hb2.2).trans h2
  have HBOX := Lib.hid hbox
  clear hl hf hJ hw h1 h2 hbox
  refine callsIn_of_wp Try.func39 rfl trivial ?_ rfl
  simp only [Try.ntmps39, List.size_toArray, List.length_cons, List.length_nil, Nat.reduceAdd, Nat.reduceSub, Array.replicate_succ, Array.replicate_zero, List.push_toArray, List.append_toArray, List.nil_append, List.cons_append]
  gi_wp2
  gi_loopw [8] (fun i wr => ∃ (k : Nat) (pre : List (Pl l)), k ≤ n ∧ i = .int .i64 (k : Int) ∧ IsPl f l (l.take k) pre ∧ J pre wr ∧ KeepX X (Bs + 1) w wr)
    (fun i _ => n - (intOf i).toNat)
  case atStart => exact ⟨0, [], Nat.zero_le _, rfl, ⟨rfl, rfl⟩, h0, hW⟩
  case round =>
    obtain ⟨k, pre, hk, rfl, hpre, hJs, hnx⟩ := hrel
    have HPRE := Lib.hid hpre
    have HNX := Lib.hid hnx
    have HJS := Lib.hid hJs
    by_cases hlt : k < n
    · have hlt' : (k : Int) < (n : Int) := by omega
      have hlt0 : (0 : Int) ≤ (k : Int) := by omega
      obtain ⟨x, gx⟩ : ∃ x, l[k]? = some x := ⟨_, List.getElem?_eq_getElem (by rw [HL.out.1]; exact hlt)⟩
      obtain ⟨b, off, p1, n1, c1, q1, m1, d1, rfl, x0, x1, x2, x3, x4, tx⟩ := mg_at HL.out gx
      have hbB : b < Bs + 1 := Nat.lt_of_lt_of_le (World.block_lt_of_cell? _ _ x0) hB0
      have hbX : b ≠ X := by have := World.block_lt_of_cell? _ _ x0; simp only at this; omega
      have hsz0 : Bs + 1 ≤ wr.heap.size := by have := hnx.size; omega
      replace x0 := (hnx.cell (p := ⟨b, off + k * 5, none⟩) hbB hbX).trans (HW.out.cell x0)
      replace x1 := (hnx.cell (p := ⟨b, off + k * 5 + 1, none⟩) hbB hbX).trans (HW.out.cell x1)
      replace x2 := (hnx.cell (p := ⟨b, off + k * 5 + 2, none⟩) hbB hbX).trans (HW.out.cell x2)
      replace x3 := (hnx.cell (p := ⟨b, off + k * 5 + 3, none⟩) hbB hbX).trans (HW.out.cell x3)
      replace x4 := (hnx.cell (p := ⟨b, off + k * 5 + 4, none⟩) hbB hbX).trans (HW.out.cell x4)
      have GX := Lib.hid gx
      have cb := HBOX.out _ (HNX.out.trans (KeepX.of ((Ext.alloc wr (.cells #[.int .i64 x.a, .int .i64 x.b, .int .i64 x.k, .slice p1 n1 c1, .slice q1 m1 d1] 26)).mono hsz0)))
      clear gx tx hnx hJs hpre
      have HNX1 := Lib.hid (HNX.out.trans (KeepX.of ((Ext.alloc wr (.cells #[.int .i64 x.a, .int .i64 x.b, .int .i64 x.k, .slice p1 n1 c1, .slice q1 m1 d1] 26)).mono hsz0)))
      obtain ⟨bf, hbf⟩ : ∃ bf, f x = bf := ⟨_, rfl⟩
      have hcf := HF.out x p1 n1 c1 q1 m1 d1 _ HNX1.out
      rw [hbf] at hcf
      have HCF := Lib.hid hcf
      have HBF := Lib.hid hbf
      clear hcf hbf
      gi_wp2_with fail
      refine ⟨trivial, fun h => by simp [Fence.wide] at h, (callsIn_wide.2 HCF.out).mono ?_⟩
      rintro e w2 ⟨rfl, hx2⟩
      have hxr2 : Ext wr w2 := Ext.trans (Ext.alloc _ _) hx2
      have hsz : Bs + 1 ≤ wr.heap.size := by have := HNX.out.size; omega
      have HNX2 := Lib.hid (HNX.out.trans (KeepX.of (hxr2.mono hsz)))
      have hJ2 := HJ.out _ _ _ none HJS.out (Lay.grown_ext hxr2 none) (fun r e => by cases e)
      have hple := HPRE.out.len
      rw [List.length_take] at hple
      clear hx2 hxr2 hsz cb
      cases bf with
      | true =>
        obtain ⟨fn, tmps, assign, body, hyy, hR⟩ := hY _ ⟨k, x, GX.out⟩ w2 hJ2 (by have := HL.out.1; omega)
        unfold encK at hyy
        clear hJ2 hple
        gi_wp2
        refine ⟨fun h => by simp [Fence.wide] at h, hR.mono ?_⟩
        rintro e W3 (⟨rfl, hJ3, hk3⟩ | ⟨rfl, hJx3⟩)
        · gi_wp2
          go_roundw
          case rel => exact ⟨k + 1, _, by omega, by go_num, HPRE.out.yes x GX.out HBF.out, hJ3, HNX2.out.trans hk3⟩
          case measure => simp only [intOf]; omega
        · gi_wp2
          refine bodyPost_ret (results_none rfl _ _ _) rfl ?_
          exact ⟨⟨_, rfl⟩, .inr ⟨_, trivial, hJx3⟩⟩
      | false =>
        clear hple
        gi_wp2
        refine ⟨fun f h => (by cases h), ?_⟩
        gi_wp2
        go_roundw
        case rel => exact ⟨k + 1, _, by omega, by go_num, HPRE.out.no x GX.out HBF.out, hJ2, HNX2.out⟩
        case measure => simp only [intOf]; omega
    · obtain rfl : k = n := by omega
      have hlt' : ¬ (k : Int) < (k : Int) := by omega
      gi_wp2
      go_end0
      exact ⟨⟨_, rfl⟩, .inl ⟨pre, by have := HPRE.out; rw [List.take_of_length_le (by rw [HL.out.1]; omega)] at this; exact this, HJS.out⟩⟩
theorem pl_stops (w0 w : World) (p : Option Addr) (n c : Nat) (l : List Mg) (hl : LMg.Row w0 p n l) (hnb : n ≤ 1000) (f : Mg → Bool) (g : FuncId) (lb : Array Value) (N B1 B2 Bs X : Nat) (hb1 : B1 ≤ Bs ∧ B1 ≠ X) (hb2 : B2 ≤ Bs ∧ B2 ≠ X) (hX : w0.heap.size ≤ X) (hB0 : w0.heap.size ≤ Bs + 1) (hw : Ext w0 w) (hBw : Bs < w.heap.size)
    (h1 : w.cell? ⟨B1, 0, none⟩ = some (.slice p n c)) (h2 : w.cell? ⟨B2, 0, none⟩ = some (.func (.func g) #[] lb)) (eg : ∀ args w, (callFunc g args).run Try.prog w = .ok (.enter g args) w)
    (hf : ∀ (x : Mg) (p1 : Option Addr) (n1 c1 : Nat) (q1 : Option Addr) (m1 d1 : Nat) (W' : World), KeepX X (Bs + 1) w W' → Calls Try.prog g (#[.agg #[.int .i64 x.a, .int .i64 x.b, .int .i64 x.k, .slice p1 n1 c1, .slice q1 m1 d1]] ++ lb) W' fun e w' => e = .returned (.bool (f x)) ∧ Ext W' w') :
    SeqStopsK Fence.wide N Try.prog 39 #[.pointer (some ⟨B1, 0, none⟩), .pointer (some ⟨B2, 0, none⟩)] (encK (l := l)) (KeepX X (Bs + 1)) (fun ys => IsPl f l l ys) (fun _ => True) l.length w := fun l1 J Jx W hW hJ _ hY h0 =>
  pl_in w0 w p n c l hl hnb f g lb N l1 B1 B2 Bs _ X hb1 hb2 hX hB0 hw hBw h1 h2 eg hf J Jx hJ hY W (KeepX.of (hW.mono (by omega))) h0
end Go.Proofs.Ytifbmkcfgpfefaa.Wi
