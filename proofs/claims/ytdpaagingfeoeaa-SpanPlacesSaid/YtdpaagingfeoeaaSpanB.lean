/- Spans: the document's own functions: into, bounds, of. -/
import Derived.Test.YtdpaagingfeoeaaSpanA
import Derived.Test.YtdpaagingfeoeaaSpanN
import Derived.Test.YtdpaagingfeoeaaPlain
namespace Go.Proofs.Ytdpaagingfeoeaa.Sp
open Go.RowKit Go.Proofs.Ytdpaagingfeoeaa
set_option linter.unusedVariables false

theorem info_int : (Try.prog.info? 3).map (fun i => (i.zero, i.size, i.bytes)) = some (some (.int .i64 0), (Lay.int .i64).size, 8) := by kernel_rfl
theorem isize_int : (Try.prog.info? 3).map (·.size) = some (Lay.int .i64).size := by kernel_rfl

abbrev LI := Lay.int .i64
def RetInto (l : List Int) (x : Int) (w : World) (e : Ending) (w' : World) : Prop := (∃ v l', e = .returned v ∧ LI.Sl w' v l' ∧ Hid (Into l x l')) ∧ Ext w w'
def IntoR (l : List Int) (x : Int) (n : Nat) (i : Value) : Prop := ∃ k : Nat, i = .int .i64 k ∧ k ≤ n ∧ Hid (∀ y ∈ l.take k, y < x)

set_option maxRecDepth 100000 in
set_option maxHeartbeats 4000000 in
theorem into_any (p : Option Addr) (n c : Nat) (l : List Int) (x : Int) (w : World) (hl : LI.Row w p n l) (hnc : n ≤ c) (hc63 : c ≤ 9223372036854775807) (hpl : Pl p c) (hx : (Lit.int .i64 x).wf = true) (hn : n ≤ 1000000) :
    Calls Try.prog 33 #[.slice p n c, .int .i64 x] w (RetInto l x w) := by
  obtain ⟨i0, hi0, hzi0, hzi1, hzi2⟩ := info_parts info_int
  have HP := Lib.hid hl
  have HR := Lib.hid hl.ints.1
  have HPL := Lib.hid hpl
  have HWX := Lib.hid hx
  have hn6 := Lib.hid hn
  have HSL : Hid (LI.Sl w (.slice p n c) l) := Lib.hid ⟨p, n, c, rfl, hl, hnc, hc63, hpl⟩
  clear hl hpl hx
  by_cases d1 : x < 0
  · have d1' : decide (x < 0) = true := decide_eq_true d1
    go_enter Try.func33, Try.ntmps33
    go_wp2
    go_ret
    exact ⟨⟨_, _, rfl, HSL.out, Lib.hid (Into.none (by omega))⟩, Ext.refl _⟩
  have d1' : decide (x < 0) = false := decide_eq_false d1
  by_cases d2 : 1099511627776 < x
  · have d2' : decide (1099511627776 < x) = true := decide_eq_true d2
    go_enter Try.func33, Try.ntmps33
    go_wp2
    go_ret
    exact ⟨⟨_, _, rfl, HSL.out, Lib.hid (Into.none (by omega))⟩, Ext.refl _⟩
  have d2' : decide (1099511627776 < x) = false := decide_eq_false d2
  have HXB : Hid (0 ≤ x ∧ x ≤ 1099511627776) := Lib.hid (by omega)
  go_enter Try.func33, Try.ntmps33
  go_wp2
  go_loop [5] (fun i => IntoR l x n i) (fun i => n - (intOf i).toNat)
  case atStart => exact ⟨0, rfl, by omega, Lib.hid (by simp)⟩
  case round =>
    obtain ⟨k, rfl, hk, HE⟩ := hrel
    have HTK : Hid ((l.take k).length ≤ n) := Lib.hid (by have := HP.out.1; simp; omega)
    have slt : ∀ w, (Instr.slice 31 (.slice p n c) none (some (.int .i64 (k : Int))) none).run Try.prog w = .ok (.slice p k c) w := fun w => run_cut_to Try.underlying31 isize_int _ _ _ _ _ rfl (by omega) HPL.out w
    have slf : ∀ w, (Instr.slice 31 (.slice p n c) (some (.int .i64 (k : Int))) none none).run Try.prog w = .ok (.slice (cutP p c k 1) (n - k) (c - k)) w := fun w => run_cut_from Try.underlying31 isize_int _ _ _ _ _ rfl hk hnc w
    have HO0 : Hid (LI.Own (w.alloc (.cells #[] 3)) w.heap.size 3 (.slice (some ⟨w.heap.size, 0, none⟩) 0 0) []) := Lib.hid (Lay.Own.made (E := LI) _ #[] 0 _ _ (Nat.le_refl _) (by decide) rfl)
    by_cases hlt : k < n
    · obtain ⟨b, off, hp, hc⟩ := HR.out.2.2 (by omega)
      have c0 := hc k hlt
      obtain ⟨y, gy⟩ := get_of l k (by rw [HR.out.1]; exact hlt)
      have ey : at0 l k = y := by simp [at0, List.getD_eq_getElem?_getD, gy]
      rw [ey] at c0
      have GY := Lib.hid gy
      have hlt' : (k : Int) < (n : Int) := by omega
      have hlt0 : (0 : Int) ≤ (k : Int) := by omega
      clear hc ey gy
      subst hp
      by_cases d3 : y < x
      · have d3' : decide (y < x) = true := decide_eq_true d3
        clear slt slf
        go_wp2
        go_round
        case rel => exact ⟨k + 1, by go_num, by omega, Lib.hid (fun z hz => by
          rw [List.take_add_one, GY.out] at hz
          rcases List.mem_append.1 hz with hz | hz
          · exact HE.out z hz
          · simp at hz; omega)⟩
        case measure => simp [intOf]; omega
      · have d3' : decide (y < x) = false := decide_eq_false d3
        by_cases d4 : y = x
        · have d4' : (y == x) = true := by simp [d4]
          have H4 := Lib.hid d4
          clear d4 slt slf
          go_wp2
          go_ret
          exact ⟨⟨_, _, rfl, HSL.out, Lib.hid (Into.there (by rw [← H4.out]; exact List.mem_of_getElem? GY.out))⟩, Ext.refl _⟩
        · have d4' : (y == x) = false := by simp [d4]
          have HGT : Hid (∀ y, l[k]? = some y → x < y) := Lib.hid (fun z hz => by rw [GY.out] at hz; injection hz; omega)
          clear d4
          go_wp2_with (first | (at_builtin; refine Lay.wpList_append (E := Lay.int .i64) rfl (.tmp 41) (.tmp 44) 31 rfl w.heap.size 3 i0 (.int .i64 0) 8 Try.underlying31 hi0 hzi0 hzi1 hzi2 rfl _ ([]) rfl (HO0.out) ((some ⟨b, off, none⟩)) k c (l.take k) rfl HPL.out (by omega) ((Lay.plain_int .i64).row ((HP.out.ext (Ext.alloc _ _)).pre k hk)) (by have := hn6.out; unfold maxLen; simp; omega) (by have := hn6.out; simp; omega) (by simp) ?_; intro v1 w1 hown1 hg1; have X1 := HO0.out.below (w0 := w) (Ext.alloc _ _) (Nat.le_refl _) hg1; rw [List.nil_append] at hown1; have HO1 := Lib.hid hown1; clear hg1 hown1) | (at_builtin; refine Lay.wpList_append (E := Lay.int .i64) rfl (.tmp 46) (.tmp 48) 31 rfl w.heap.size 3 i0 (.int .i64 0) 8 Try.underlying31 hi0 hzi0 hzi1 hzi2 rfl _ (l.take k) rfl (HO1.out.ext (Ext.alloc _ _)) (some ⟨w1.heap.size, 0, none⟩) 1 1 ([x]) rfl (fun _ => ⟨_, _, rfl⟩) (by omega) ((Lay.plain_int .i64).lit (Ext.refl _) (Lay.All.single ⟨rfl, HWX.out⟩) rfl rfl (by omega)) (by have := hn6.out; have := HTK.out; unfold maxLen; omega) (by have := hn6.out; have := HTK.out; omega) (Ext.trans X1 (Ext.alloc _ _)).size ?_; intro v2 w2 hown2 hg2; have X2 := (HO1.out.ext (Ext.alloc w1 (.cells #[.int .i64 x] 3))).below (Ext.trans X1 (Ext.alloc _ _)) (Nat.le_refl _) hg2; have HO2 := Lib.hid hown2; clear hg2 hown2 HO1) | (at_builtin; refine Lay.wpList_append (E := Lay.int .i64) rfl (.tmp 50) (.tmp 53) 31 rfl w.heap.size 3 i0 (.int .i64 0) 8 Try.underlying31 hi0 hzi0 hzi1 hzi2 rfl _ (l.take k ++ [x]) rfl (HO2.out) (cutP (some ⟨b, off, none⟩) c k 1) (n - k) (c - k) (l.drop k) rfl (HPL.out.cut k 1) (by omega) ((Lay.plain_int .i64).row ((HP.out.ext X2).cut_from hnc HPL.out k hk)) (by have := hn6.out; have := HTK.out; unfold maxLen; simp; omega) (by have := hn6.out; have := HTK.out; simp; omega) X2.size ?_; intro v3 w3 hown3 hg3; have X3 := HO2.out.below X2 (Nat.le_refl _) hg3; have HO3 := Lib.hid hown3; clear hown3 hg3))
          go_ret
          exact ⟨⟨_, _, rfl, HO3.out.sl, Lib.hid (Into.put HXB.out k HE.out HGT.out)⟩, X3⟩

    · obtain rfl : k = n := by omega
      have HGT : Hid (∀ y, l[k]? = some y → x < y) := Lib.hid (fun z hz => by rw [List.getElem?_eq_none (by rw [HR.out.1]; omega)] at hz; cases hz)
      go_wp2_with (first | (at_builtin; refine Lay.wpList_append (E := Lay.int .i64) rfl (.tmp 41) (.tmp 44) 31 rfl w.heap.size 3 i0 (.int .i64 0) 8 Try.underlying31 hi0 hzi0 hzi1 hzi2 rfl _ ([]) rfl (HO0.out) (p) k c (l.take k) rfl HPL.out (by omega) ((Lay.plain_int .i64).row ((HP.out.ext (Ext.alloc _ _)).pre k hk)) (by have := hn6.out; unfold maxLen; simp; omega) (by have := hn6.out; simp; omega) (by simp) ?_; intro v1 w1 hown1 hg1; have X1 := HO0.out.below (w0 := w) (Ext.alloc _ _) (Nat.le_refl _) hg1; rw [List.nil_append] at hown1; have HO1 := Lib.hid hown1; clear hg1 hown1) | (at_builtin; refine Lay.wpList_append (E := Lay.int .i64) rfl (.tmp 46) (.tmp 48) 31 rfl w.heap.size 3 i0 (.int .i64 0) 8 Try.underlying31 hi0 hzi0 hzi1 hzi2 rfl _ (l.take k) rfl (HO1.out.ext (Ext.alloc _ _)) (some ⟨w1.heap.size, 0, none⟩) 1 1 ([x]) rfl (fun _ => ⟨_, _, rfl⟩) (by omega) ((Lay.plain_int .i64).lit (Ext.refl _) (Lay.All.single ⟨rfl, HWX.out⟩) rfl rfl (by omega)) (by have := hn6.out; have := HTK.out; unfold maxLen; omega) (by have := hn6.out; have := HTK.out; omega) (Ext.trans X1 (Ext.alloc _ _)).size ?_; intro v2 w2 hown2 hg2; have X2 := (HO1.out.ext (Ext.alloc w1 (.cells #[.int .i64 x] 3))).below (Ext.trans X1 (Ext.alloc _ _)) (Nat.le_refl _) hg2; have HO2 := Lib.hid hown2; clear hg2 hown2 HO1) | (at_builtin; refine Lay.wpList_append (E := Lay.int .i64) rfl (.tmp 50) (.tmp 53) 31 rfl w.heap.size 3 i0 (.int .i64 0) 8 Try.underlying31 hi0 hzi0 hzi1 hzi2 rfl _ (l.take k ++ [x]) rfl (HO2.out) (cutP p c k 1) 0 (c - k) (l.drop k) rfl (HPL.out.cut k 1) (by omega) ((Lay.plain_int .i64).row (by have h9 := (HP.out.ext X2).cut_from hnc HPL.out k hk; rwa [Nat.sub_self] at h9)) (by have := hn6.out; have := HTK.out; unfold maxLen; simp; omega) (by have := hn6.out; have := HTK.out; simp; omega) X2.size ?_; intro v3 w3 hown3 hg3; have X3 := HO2.out.below X2 (Nat.le_refl _) hg3; have HO3 := Lib.hid hown3; clear hown3 hg3))
      go_ret
      exact ⟨⟨_, _, rfl, HO3.out.sl, Lib.hid (Into.put HXB.out k HE.out HGT.out)⟩, X3⟩

/-- all bounds -/
def RBndR (w : World) (l : List Span) (n : Nat) (v i : Value) (wr : World) : Prop := ∃ (k : Nat) (m : List Int), i = .int .i64 k ∧ k ≤ n ∧ LI.Sl wr v m ∧ Hid (BndOk (l.take k) m) ∧ Ext w wr
def RetBnd (l : List Span) (w : World) (e : Ending) (w' : World) : Prop := (∃ v m, e = .returned v ∧ LI.Sl w' v m ∧ Hid (BndOk l m)) ∧ Ext w w'

set_option maxRecDepth 100000 in
set_option maxHeartbeats 4000000 in
theorem rbounds_any (p : Option Addr) (n c : Nat) (l : List Span) (w : World) (hl : LSpan.Row w p n l) (hn : n ≤ 100000) :
    Calls Try.prog 34 #[.slice p n c] w (RetBnd l w) := by
  have HP := Lib.hid hl
  have hn6 := Lib.hid hn
  have hn63 := hl.2.1
  have HO := Lib.hid ((Lay.plain_int .i64).own_lit w #[.int .i64 0] 3 w.heap.size 1 [0] (Nat.le_refl _) (Lay.All.single ⟨rfl, by decide⟩) rfl (by decide)).sl
  clear hl hn
  go_enter Try.func34, Try.ntmps34
  go_wp2
  go_loopw [3, 4] (fun v i wr => RBndR w l n v i wr) (fun _ i _ => n - (intOf i).toNat)
  case atStart => exact ⟨0, [0], rfl, by omega, HO.out, Lib.hid BndOk.start, Ext.alloc _ _⟩
  case round =>
    obtain ⟨k, m, rfl, hk, hs, HB, hx⟩ := hrel
    obtain ⟨q, s, d, rfl, hr, hsd, hd, hpl⟩ := hs
    by_cases hlt : k < n
    · obtain ⟨r, gr⟩ := get_of l k (by rw [HP.out.1]; exact hlt)
      obtain ⟨b, off, rfl, c0, c1, w0, w1⟩ := span_at (HP.out.ext hx) gr
      obtain ⟨f, u⟩ := r
      simp only at c0 c1 w0 w1
      have GR := Lib.hid gr
      have HS := Lib.hid hr
      have HPL := Lib.hid hpl
      have HW0 := Lib.hid w0
      have HW1 := Lib.hid w1
      have HB2 : Hid (s ≤ 2 * k + 1) := Lib.hid (by rw [← hr.1]; have := HB.out.len; simp at this; omega)
      have hlt' : (k : Int) < (n : Int) := by omega
      have hlt0 : (0 : Int) ≤ (k : Int) := by omega
      clear gr hr hpl w0 w1
      go_wp2_with fail
      refine (into_any _ _ _ _ _ _ HS.out hsd hd HPL.out HW0.out (by have := HB2.out; have := hn6.out; omega)).mono ?_
      rintro e w2 ⟨⟨v2, m2, rfl, ⟨q2, s2, d2, rfl, hr2, hsd2, hd2, hpl2⟩, HI2⟩, hx2⟩
      have HS2 := Lib.hid hr2
      have HPL2 := Lib.hid hpl2
      have c1' := hx2.cell c1
      have HB3 : Hid (s2 ≤ 2 * k + 2) := Lib.hid (by rw [← hr2.1]; have := HI2.out.len; have := HS.out.1; have := HB2.out; omega)
      replace hx := Ext.trans hx hx2
      clear hr2 hpl2 hx2 c0 c1
      go_wp2_with fail
      refine (into_any _ _ _ _ _ _ HS2.out hsd2 hd2 HPL2.out HW1.out (by have := HB3.out; have := hn6.out; omega)).mono ?_
      rintro e w3 ⟨⟨v3, m3, rfl, hsl3, HI3⟩, hx3⟩
      have HS3 := Lib.hid hsl3
      replace hx := Ext.trans hx hx3
      clear hsl3 hx3
      go_wp2
      go_roundw
      case rel => exact ⟨k + 1, m3, by go_num, by omega, HS3.out, Lib.hid (by
        rw [List.take_add_one, GR.out]; exact HB.out.snoc HI2.out HI3.out), hx⟩
      case measure => simp [intOf]; omega
    · obtain rfl : k = n := by omega
      have HS := Lib.hid hr
      have HPL := Lib.hid hpl
      clear hr hpl
      go_wp2
      go_ret
      have hb := HB.out
      rw [List.take_of_length_le (by rw [HP.out.1]; omega)] at hb
      exact ⟨⟨_, m, rfl, ⟨_, _, _, rfl, HS.out, hsd, hd, HPL.out⟩, Lib.hid hb⟩, hx⟩
end Go.Proofs.Ytdpaagingfeoeaa.Sp
