/- Written bytes: the pieces of a file; the code's See. -/
import Derived.Test.YtcajmgdenhegjaaWrM
namespace Go.Proofs.Ytcajmgdenhegjaa.Wr
open Go.RowKit Go.Proofs.Ytcajmgdenhegjaa
set_option linter.unusedVariables false

theorem info_pc : (Try.prog.info? 30).map (fun i => (i.zero, i.size, i.bytes)) = some (some (.agg #[.int .i64 0, .int .i64 0, .slice none 0 0]), LPc.size, 40) := by kernel_rfl
def pickL (l : List Pc) (m : Int) : List Pc := l.filter (fun x => decide (x.i = m))
theorem pick_succ {l : List Pc} {j : Nat} {x : Pc} (h : l[j]? = some x) (m : Int) : pickL (l.take (j + 1)) m = if x.i = m then pickL (l.take j) m ++ [x] else pickL (l.take j) m := by
  unfold pickL
  rw [List.take_add_one, h]
  show List.filter _ (l.take j ++ [x]) = _
  rw [List.filter_append]
  by_cases hx : x.i = m <;> simp [hx]
theorem pick_len (l : List Pc) (m : Int) : (pickL l m).length ≤ l.length := List.length_filter_le _ _
theorem TriC.ext {w w1 : World} {a f : Int} {p : Option Addr} {n c : Nat} {d : List Int} (h : TriC w [.int .i64 a, .int .i64 f, .slice p n c] a f d p n c) (hx : Ext w w1) : TriC w1 [.int .i64 a, .int .i64 f, .slice p n c] a f d p n c := h.at_ hx f h.wb
/-- one piece, that lies in what came in, whatever is written into a row of the call's own -/
theorem pc_keep {w0 w1 : World} {row : Option Nat} {a f : Int} {p : Option Addr} {n c : Nat} {d : List Int} (h : TriC w0 [.int .i64 a, .int .i64 f, .slice p n c] a f d p n c) (hx : Ext w0 w1) (hr : ∀ k, row = some k → w0.heap.size ≤ k) : LPc.AllK w1 row [.int .i64 a, .int .i64 f, .slice p n c] [⟨a, f, d⟩] :=
  fun w' hg => Lay.All.single ((TriC.ext h (Lay.grown_old hx hr hg)).tri)
def RPickR (w0 : World) (l : List Pc) (m : Int) (n : Nat) (o i : Value) (wr : World) : Prop :=
  ∃ j : Nat, i = .int .i64 j ∧ j ≤ n ∧ LPc.Own wr w0.heap.size 30 o (pickL (l.take j) m) ∧ Ext w0 wr
set_option maxRecDepth 100000 in
set_option maxHeartbeats 4000000 in
theorem picked_v (p : Option Addr) (n c : Nat) (l : List Pc) (m : Int) (w : World) (hl : LPc.Row w p n l) (hb : n ≤ 1000) :
    Calls Try.prog 41 #[.slice p n c, .func (.func 37) #[.int .i64 m] #[]] w fun e w' => (∃ v, e = .returned v ∧ LPc.Own w' w.heap.size 30 v (pickL l m)) ∧ Ext w w' := by
  obtain ⟨i0, hi0, hzi0, hzi1, hzi2⟩ := info_parts info_pc
  have HP := Lib.hid hl
  have HNB := Lib.hid hb
  have hn := hl.2.1
  clear hl hb
  go_enter Try.func41, Try.ntmps41
  go_wp2
  go_loopw [5, 10] (fun o i wr => RPickR w l m n o i wr) (fun o i _ => n - (intOf i).toNat)
  case atStart => exact ⟨0, rfl, by omega, Lay.Own.nil _ _ _ _, Ext.refl _⟩
  case round =>
    obtain ⟨j, rfl, hj, ho, hx⟩ := hrel
    have HX := Lib.hid hx
    have HO := Lib.hid ho
    by_cases hlt : j < n
    · have hlt' : (j : Int) < (n : Int) := by omega
      have hlt0 : (0 : Int) ≤ (j : Int) := by omega
      obtain ⟨x, gx⟩ : ∃ x, l[j]? = some x := ⟨_, List.getElem?_eq_getElem (by rw [HP.out.1]; exact hlt)⟩
      obtain ⟨b, off, p1, n1, c1, rfl, x0, x1, x2, tx⟩ := pc_at HP.out gx
      replace x0 := hx.cell x0
      replace x1 := hx.cell x1
      replace x2 := hx.cell x2
      have GX := Lib.hid gx
      have HT := Lib.hid tx
      have HC := Lib.hid (fun W => of_any m x p1 n1 c1 W)
      have hxA : Ext wr (wr.alloc (.cells #[.int .i64 x.i, .int .i64 x.f, .slice p1 n1 c1] 30)) := Ext.alloc _ _
      clear gx tx ho hx
      by_cases hi : x.i = m
      · have hb : (x.i == m) = true := by simp [hi]
        have HI := Lib.hid hi
        rw [hb] at HC
        clear hi hb
        go_wp2_with fail
        refine (HC.out _).mono ?_
        rintro e w2 ⟨rfl, hx2⟩
        obtain ⟨f0, f1, f2⟩ := pc_box hx2
        have hxB := Ext.trans hxA hx2
        have HXB := Lib.hid (Ext.trans HX.out hxB)
        have HO2 := Lib.hid (HO.out.ext hxB)
        have hxC : Ext w (w2.alloc (.cells #[.int .i64 x.i, .int .i64 x.f, .slice p1 n1 c1] 30)) := Ext.trans HXB.out (Ext.alloc _ _)
        have HXC := Lib.hid hxC
        have hlen : (pickL (l.take j) m).length ≤ 1000 := Nat.le_trans (pick_len _ _) (by rw [List.length_take]; have := HNB.out; omega)
        have HLEN := Lib.hid hlen
        have HOA := Lib.hid (HO2.out.ext (Ext.alloc w2 (.cells #[.int .i64 x.i, .int .i64 x.f, .slice p1 n1 c1] 30)))
        have HRK : Hid (LPc.RowK (w2.alloc (.cells #[.int .i64 x.i, .int .i64 x.f, .slice p1 n1 c1] 30)) u5.ownBlock (some ⟨w2.heap.size, 0, none⟩) 1 [x]) := Lib.hid (Lay.RowK.lit (Ext.refl _) (pc_keep HT.out hxC (fun k hk => (HOA.out.lt k hk).1)) rfl rfl (by decide))
        clear hx2 hxA hxB hxC hlen
        go_wp2_with (at_builtin; refine Lay.wpList_append (E := LPc) rfl (.tmp 17) (.tmp 19) 22 rfl w.heap.size 30 i0 (.agg #[.int .i64 0, .int .i64 0, .slice none 0 0]) 40 Try.underlying22 hi0 hzi0 hzi1 hzi2 rfl u5 (pickL (l.take j) m) rfl HOA.out (some ⟨w2.heap.size, 0, none⟩) 1 1 [x] rfl (fun _ => ⟨_, _, rfl⟩) (Nat.le_refl _) HRK.out (by have := HLEN.out; unfold maxLen; omega) (by have := HLEN.out; omega) (by have := HXC.out.size; exact this) ?_; intro v2 w3 hown2 hg2)
        have X4 := Lib.hid (HOA.out.below HXC.out (Nat.le_refl _) hg2)
        have HO4 := Lib.hid hown2
        clear hown2 hg2
        go_wp2
        go_roundw
        case rel => exact ⟨j + 1, by go_num, by omega, by rw [pick_succ GX.out, if_pos HI.out]; exact HO4.out, X4.out⟩
        case measure => simp [intOf]; omega
      · have hb : (x.i == m) = false := by simp [hi]
        have HI := Lib.hid hi
        rw [hb] at HC
        clear hi hb
        go_wp2_with fail
        refine (HC.out _).mono ?_
        rintro e w2 ⟨rfl, hx2⟩
        have hxB := Ext.trans hxA hx2
        have HXB := Lib.hid (Ext.trans HX.out hxB)
        have HO2 := Lib.hid (HO.out.ext hxB)
        clear hx2 hxA hxB
        go_wp2
        go_roundw
        case rel => exact ⟨j + 1, by go_num, by omega, by rw [pick_succ GX.out, if_neg HI.out]; exact HO2.out, HXB.out⟩
        case measure => simp [intOf]; omega
    · obtain rfl : j = n := by omega
      clear ho hx
      go_wp2
      go_ret
      exact ⟨⟨_, rfl, by have := HO.out; rw [List.take_of_length_le (by rw [HP.out.1]; omega)] at this; exact this⟩, HX.out⟩

theorem RightAll_ok {l : List Pc} (h : AllR l) (m : Int) : ∀ x ∈ pickL l m, x.Ok := fun x hx => (h x (List.mem_filter.1 hx).1).ok
set_option maxHeartbeats 1000000 in
theorem csee_v (u : Value) (F : List Int) (p : Option Addr) (n c : Nat) (l : List Pc) (m : Int) (w : World) (hu : (Lay.int .u8).Sl w u F) (hl : LPc.Row w p n l) (hr : AllR l) (hb : n ≤ 1000) (hF : F.length ≤ 10000) :
    Calls Try.prog 18 #[.slice p n c, .int .i64 m, u] w fun e w' => (∃ v, e = .returned v ∧ (Lay.int .u8).Own w' w.heap.size 5 v (seeL l m F)) ∧ Ext w w' := by
  have HU := Lib.hid hu
  have HR := Lib.hid hr
  have HF := Lib.hid hF
  have HC := Lib.hid (picked_v p n c l m w hl hb)
  clear hu hl hr hF
  go_enter Try.func18, Try.ntmps18
  go_wp2_with fail
  refine HC.out.mono ?_
  rintro e w2 ⟨⟨v, rfl, ho⟩, hx2⟩
  obtain ⟨q, m2, c2, rfl⟩ := own_form ho
  have HS := Lib.hid (sl_parts ho.sl).1
  have HX2 := Lib.hid hx2
  have HL := Lib.hid (laid_v u F (pickL l m) q m2 c2 w2 (HU.out.ext hx2) HS.out (RightAll_ok HR.out m) HF.out)
  clear ho hx2
  go_wp2_with fail
  refine HL.out.mono ?_
  rintro e w3 ⟨⟨v, rfl, ho⟩, hx3⟩
  have HO := Lib.hid ho
  clear ho
  go_wp2
  go_ret
  exact ⟨⟨_, rfl, HO.out.base HX2.out.size⟩, Ext.trans HX2.out hx3⟩
end Go.Proofs.Ytcajmgdenhegjaa.Wr
