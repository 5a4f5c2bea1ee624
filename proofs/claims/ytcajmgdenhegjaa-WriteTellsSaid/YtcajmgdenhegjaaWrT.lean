/- Written bytes: the code's stored, Take, Raise. -/
import Derived.Test.YtcajmgdenhegjaaWrR
namespace Go.Proofs.Ytcajmgdenhegjaa.Wr
open Go.RowKit Go.Proofs.Ytcajmgdenhegjaa
set_option linter.unusedVariables false

/-- the row in which the file stands -/
def storL (l : List Sf) (m : Int) : List Sf := if hadS l m = true then l else l.take (atS l m) ++ ⟨m, 0, []⟩ :: l.drop (atS l m)
theorem stor_len (l : List Sf) (m : Int) : (storL l m).length ≤ l.length + 1 := by
  unfold storL; split
  · omega
  · simp; omega
theorem at_le (l : List Sf) (m : Int) : atS l m ≤ l.length := by unfold atS; exact (List.takeWhile_prefix _).length_le
set_option maxRecDepth 100000 in
set_option maxHeartbeats 4000000 in
theorem stored_v (u : Value) (l : List Sf) (m : Int) (w : World) (hu : LSf.Sl w u l) (hs : SortedS l) (hb : l.length ≤ 1000) (hw : (Lit.int .i64 m).wf = true) :
    Calls Try.prog 42 #[u, .int .i64 m] w fun e w' => (∃ v, e = .returned (.tuple #[v, .int .i64 (atS l m)]) ∧ LSf.Own w' w.heap.size 51 v (storL l m)) ∧ Ext w w' := by
  have HC := Lib.hid (cloneS_v u l w hu (by omega))
  have HS := Lib.hid hs
  have HB := Lib.hid hb
  have HW := Lib.hid hw
  clear hu hs hb hw
  go_enter Try.func42, Try.ntmps42
  go_wp2_with fail
  refine HC.out.mono ?_
  rintro e w1 ⟨⟨v, rfl, ho⟩, hx1⟩
  obtain ⟨p, n, c, rfl⟩ := own_form ho
  have HO := Lib.hid ho
  have HX1 := Lib.hid hx1
  have HR := Lib.hid (sl_parts ho.sl).1
  clear ho hx1
  go_wp2_with fail
  refine (bin_v p n c l m w1 HR.out HS.out (by have := HR.out.1; have := HB.out; omega)).mono ?_
  rintro e w2 ⟨rfl, hx2⟩
  have HX2 := Lib.hid hx2
  have HO2 := Lib.hid (HO.out.ext hx2)
  clear hx2
  by_cases hh : hadS l m = true
  · have HH := Lib.hid hh
    rw [hh]
    clear hh
    go_wp2
    go_ret2
    exact ⟨⟨_, rfl, by unfold storL; rw [if_pos HH.out]; exact HO2.out⟩, Ext.trans HX1.out HX2.out⟩
  · have hh2 : hadS l m = false := by simpa using hh
    have HH := Lib.hid hh2
    rw [hh2]
    clear hh hh2
    have HI := Lib.hid (insert_v (.slice p n c) l (atS l m) m w.heap.size w2 HO2.out (at_le l m) HB.out (Ext.trans HX1.out HX2.out).size HW.out)
    go_wp2_with fail
    refine HI.out.mono ?_
    rintro e w3 ⟨⟨v, rfl, ho⟩, hg⟩
    have HO3 := Lib.hid ho
    have HX3 := Lib.hid (HO2.out.below (Ext.trans HX1.out HX2.out) (Nat.le_refl _) hg)
    clear ho hg
    go_wp2
    go_ret2
    exact ⟨⟨_, rfl, by unfold storL; rw [if_neg (by rw [HH.out]; simp)]; exact HO3.out⟩, HX3.out⟩
end Go.Proofs.Ytcajmgdenhegjaa.Wr
